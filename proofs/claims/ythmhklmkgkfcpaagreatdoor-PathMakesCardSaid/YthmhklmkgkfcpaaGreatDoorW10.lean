import Derived.Test.YthmhklmkgkfcpaaGreatDoorW3
set_option linter.all false
set_option maxHeartbeats 8000000
set_option maxRecDepth 100000
namespace Go.Proofs.YthmhklmkgkfcpaaGreatDoor
open Go.Proofs.Tryz Go.RowKit
variable {N gf j q:Nat}{P:Program}{Q:Exit->Act->World->Prop}{R:Nat->Prop}{a:Act}{g:Operand}{lb:Array Value}{ps:Array Tmp}{w w0:World}
theorem lK (x:Int)(w:World):Calls prog 34 #[.int .i64 x] w λe w'=>e=.returned (.tuple #[.int .i64 (eJ x),.int .i64 (chE x)])/\w=w':=by
 have a:=Lib.hid (qq x w);by_cases h:eD x=0
 ·rw[show eJ x=0 from if_pos h,show chE x=1 from if_pos h]
  rw[h] at a;clear h;go_enter func34,ntmps34;go_wp2_with fail;refine a.out.mono ?_;rintro _ _ ⟨rfl,rfl⟩;go_wp2_with fail;go_ret2;exact⟨rfl,rfl⟩
 ·have b:okN x:=by
   by_cases l:okN x
   ·exact l
   ·exact absurd (mn l) h
  obtain⟨j,q,rfl,d,c⟩:=(eC x).1 b;have p:=(eC ((nd j q:Nat):Int)).2 ⟨j,q,rfl,d,c⟩;rw[fm d c] at h a;cases j with
  | zero=>exact absurd rfl h
  | succ j=>
   obtain⟨n,m,r⟩:=fD (j:=j) d c;rw[n,m];have o:=Lib.hid (tF j w (by omega));have g:(2:Nat) ^ j<=2 ^ 10:=Kd (by omega) (by omega);have i:=kP j q;have f:=kQ j q;have v:IntKind.i64.wrap (((j+1:Nat):Int) - 1)=(j:Int):=by rw[IW _ (by omega)];omega
   obtain⟨M,k⟩:∃ M,2 ^ j=M:=⟨_,rfl⟩;rw[k] at o g i f;have u:IntKind.i64.wrap (((nd (j+1) q:Nat):Int) - (M:Int))=((nd j (2*q):Nat):Int):=by rw[IW _ (by omega)];omega
   have t:(((j+1:Nat):Int)==0)=false:=Jd.2 (by omega);have s:¬((j+1:Nat):Int)=0:=by omega
   generalize ((nd (j+1) q:Nat):Int)=X at *;generalize ((nd j (2*q):Nat):Int)=Y at *;generalize ((j+1:Nat):Int)=J at *;clear h b p n m r g i f k d c;go_enter func34,ntmps34;go_wp2_with fail;refine a.out.mono ?_;rintro _ _ ⟨rfl,rfl⟩;go_wp2_with fail;refine o.out.mono ?_;rintro _ _ ⟨rfl,rfl⟩;go_wp2_with fail;go_ret2;exact⟨rfl,rfl⟩
theorem lM (x:Int)(w:World):Calls prog 35 #[.int .i64 x] w λe w'=>e=.returned (.tuple #[.int .i64 (fb x),.int .i64 (chE x)])/\w=w':=by
 have a:=Lib.hid (qq x w);by_cases h:eD x=0
 ·rw[show fb x=0 from if_pos h,show chE x=1 from if_pos h]
  rw[h] at a;clear h;go_enter func35,ntmps35;go_wp2_with fail;refine a.out.mono ?_;rintro _ _ ⟨rfl,rfl⟩;go_wp2_with fail;go_ret2;exact⟨rfl,rfl⟩
 ·have b:okN x:=by
   by_cases l:okN x
   ·exact l
   ·exact absurd (mn l) h
  obtain⟨j,q,rfl,d,c⟩:=(eC x).1 b;have p:=(eC ((nd j q:Nat):Int)).2 ⟨j,q,rfl,d,c⟩;rw[fm d c] at h a;cases j with
  | zero=>exact absurd rfl h
  | succ j=>
   obtain⟨n,r,m⟩:=fD (j:=j) d c;rw[n,m];have o:=Lib.hid (tF j w (by omega));have g:(2:Nat) ^ j<=2 ^ 10:=Kd (by omega) (by omega);have i:=kP j q;have f:=kQ j q;have v:IntKind.i64.wrap (((j+1:Nat):Int) - 1)=(j:Int):=by rw[IW _ (by omega)];omega
   obtain⟨M,k⟩:∃ M,2 ^ j=M:=⟨_,rfl⟩;rw[k] at o g i f;have u:IntKind.i64.wrap (((nd (j+1) q:Nat):Int)+(M:Int))=((nd j (2*q+1):Nat):Int):=by rw[IW _ (by omega)];omega
   have t:(((j+1:Nat):Int)==0)=false:=Jd.2 (by omega);have s:¬((j+1:Nat):Int)=0:=by omega
   generalize ((nd (j+1) q:Nat):Int)=X at *;generalize ((nd j (2*q+1):Nat):Int)=Y at *;generalize ((j+1:Nat):Int)=J at *;clear h b p n r m g i f k d c;go_enter func35,ntmps35;go_wp2_with fail;refine a.out.mono ?_;rintro _ _ ⟨rfl,rfl⟩;go_wp2_with fail;refine o.out.mono ?_;rintro _ _ ⟨rfl,rfl⟩;go_wp2_with fail;go_ret2;exact⟨rfl,rfl⟩
theorem CG (p:Int):chE p=1\/chE p=0:=by unfold chE;split <;> simp
theorem CH (p:Nat)(g:p<=2046)(k:j<=10):
  (chE (p:Int)=0/\(eJ (p:Int)=((nd j q:Nat):Int)\/fb (p:Int)=((nd j q:Nat):Int)))↔p=nd (j+1) (q / 2):=by
 obtain⟨i,r,e,f,b⟩:=ir 10 p (by omega)
 subst e
 cases i with
 | zero=>
  obtain⟨a,d,c⟩:=zr (q:=r) (by simpa using b)
  rw[a]
  constructor
  ·rintro⟨h,_⟩;omega
  ·intro h;exact absurd (iV h).1 (by omega)
 | succ i=>
  obtain⟨a,d,c⟩:=fD (j:=i) f b
  rw[a,d,c]
  constructor
  ·rintro⟨_,h|h⟩
   ·obtain⟨rfl,rfl⟩:=iV (Int.ofNat.inj h)
    congr 1;omega
   ·obtain⟨rfl,rfl⟩:=iV (Int.ofNat.inj h)
    congr 1;omega
  ·intro h
   obtain⟨n,m⟩:=iV h
   obtain rfl:i=j:=by omega
   refine⟨rfl,?_⟩
   by_cases l:q % 2=0
   ·left;congr 2;omega
   ·right;congr 2;omega
theorem CI (X n:Int)(W T:Nat)(w:World)(O:IntKind.i64.wrap (2*n)=2*n)(r:2*n - 1=(W:Int))(H:W<=2047)(k:inB X n=true)(j:-9223372036854775808<=n/\n<=9223372036854775807)
  (C:∀ p:Nat,p<=2046->((chE (p:Int)=0/\(eJ (p:Int)=X\/fb (p:Int)=X))↔p=T)):
  Calls prog 80 #[.int .i64 X,.int .i64 n] w λe w'=>e=.returned (if T<W then .tuple #[.int .i64 (T:Int),.int .i64 0] else .tuple #[.int .i64 0,.int .i64 11])/\w=w':=by
 have z:=Lib.hid (mv X n w j);rw[k] at z;have A:=Lib.hid C;have B:=Lib.hid (fun(p:Nat)=>lK (p:Int) w);have x:=Lib.hid (fun(p:Nat)=>lM (p:Int) w);have K:IntKind.i64.wrap (2*n - 1)=(W:Int):=by rw[r];exact IW _ (by omega)
 have M:IntKind.i64.wrap (W:Int)=(W:Int):=IW _ (by omega);obtain⟨V,s⟩:∃ V,(if T<W then (.tuple #[.int .i64 (T:Int),.int .i64 0]:Value) else .tuple #[.int .i64 0,.int .i64 11])=V:=⟨_,rfl⟩;rw[s];have q:=Lib.hid s;have v:=Lib.hid (Nat.lt_or_ge T W);clear C k j s;go_enter func80,ntmps80;go_wp2_with fail;refine z.out.mono ?_;rintro _ _ ⟨rfl,rfl⟩;clear z;go_wp2_with fail;go_loop [7] (λy=>∃ p:Nat,p<=W/\p<=T/\y=.int .i64 (p:Int)) (λy=>(W - (intOf y).toNat))
 case atStart=>exact⟨0,Jl _,Jl _,rfl⟩
 case round=>
  obtain⟨p,N,i,rfl⟩:=hrel;by_cases G:p<W
  ·have D:(p:Int)<(W:Int):=by omega
   have b:=A.out p (by omega);have f:=Lib.hid (B.out p);have d:=Lib.hid (x.out p);have J:IntKind.i64.wrap ((p:Int)+1)=(p:Int)+1:=IW _ (by omega);have F:=CG (p:Int);clear A B x r;generalize chE (p:Int)=E at *;generalize eJ (p:Int)=L at *;generalize fb (p:Int)=R at *;by_cases l:p=T
   ·obtain⟨o,u⟩:=b.2 l
    have c:Hid (V=.tuple #[.int .i64 (p:Int),.int .i64 0]):=by have:=q.out;rw[if_pos (by omega)] at this;rw[l];exact this.symm
    subst o;clear b F q v l i;by_cases m:L=X
    ·subst m
     clear u;go_wp2_with fail;refine f.out.mono ?_;rintro _ _ ⟨rfl,rfl⟩;go_wp2_with fail;refine d.out.mono ?_;rintro _ _ ⟨rfl,rfl⟩;go_wp2;go_ret2;exact⟨by rw[c.out] <;> rfl,rfl⟩
    ·have t:R=X:=u.resolve_left m
     subst t;have I:(L==R)=false:=Jd.2 m;clear u;go_wp2_with fail;refine f.out.mono ?_;rintro _ _ ⟨rfl,rfl⟩;go_wp2_with fail;refine d.out.mono ?_;rintro _ _ ⟨rfl,rfl⟩;go_wp2;go_ret2;exact⟨by rw[c.out] <;> rfl,rfl⟩
   ·have a:¬(E=0/\(L=X\/R=X)):=λh=>l (b.1 h)
    have g:p+1<=T:=by omega
    clear b q v l i;rcases F with o|o
    ·subst o
     clear a;go_wp2_with fail;refine f.out.mono ?_;rintro _ _ ⟨rfl,rfl⟩;go_wp2_with fail;refine d.out.mono ?_;rintro _ _ ⟨rfl,rfl⟩;go_wp2;go_round
     case rel=>exact⟨p+1,by omega,g,by go_num⟩
     case measure=>simp[intOf];omega
    ·subst o
     have m:¬L=X:=λh=>a ⟨rfl,.inl h⟩
     have t:¬R=X:=λh=>a ⟨rfl,.inr h⟩
     have I:(L==X)=false:=Jd.2 m;have P:(R==X)=false:=Jd.2 t;clear a;go_wp2_with fail;refine f.out.mono ?_;rintro _ _ ⟨rfl,rfl⟩;go_wp2_with fail;refine d.out.mono ?_;rintro _ _ ⟨rfl,rfl⟩;go_wp2;go_round
     case rel=>exact⟨p+1,by omega,g,by go_num⟩
     case measure=>simp[intOf];omega
  ·obtain rfl:p=W:=by omega
   have c:Hid (V=.tuple #[.int .i64 0,.int .i64 11]):=by have:=q.out;rw[if_neg (by omega)] at this;exact this.symm
   clear A B x q v r i;go_wp2;go_ret2;exact⟨by rw[c.out] <;> rfl,rfl⟩
theorem rI (x n:Int)(w:World)(a:-9223372036854775808<=n/\n<=9223372036854775807):Calls prog 80 #[.int .i64 x,.int .i64 n] w λe w'=>e=.returned (.tuple #[.int .i64 (paV x n),.int .i64 (paE x n)])/\w=w':=by
 by_cases h:inB x n=true
 ·obtain⟨K,j,q,i,rfl,rfl,u,d⟩:=(it x n).1 h
  obtain⟨_,g,m⟩:=dW i u d;have y:=bP i;have l:=bC K;have v:=bi K;obtain⟨W,o⟩:∃ W,2 ^ (K+1) - 1=W:=⟨_,rfl⟩;have:=CI ((nd j q:Nat):Int) ((2 ^ K:Nat):Int) W (nd (j+1) (q / 2)) w (IW _ (by omega)) (by omega) (by omega) h a (λp t=>CH p t g);refine this.mono ?_;rintro _ _ ⟨rfl,rfl⟩;by_cases s:j=K
  ·subst s
   have k:q=0:=by simp at d;exact d
   subst k;obtain⟨c,b,_⟩:=tq i;rw[c,b,if_neg]
   ·exact⟨rfl,rfl⟩
   ·intro f
    rw[<-o] at f;have:=(zm f).1;omega
  ·obtain⟨c,b,_⟩:=qp (K:=K) (j:=j) (q:=q) i (by omega) d
   rw[c,b,if_pos]
   ·exact⟨rfl,rfl⟩
   ·rw[<-o]
    refine fP (by omega) ?_;have e:K - j=(K - (j+1))+1:=by omega
    rw[e,bi] at d;omega
 ·obtain⟨c,b,_⟩:=tp h
  have l:inB x n=false:=by rw[Lg];exact h
  have r:=Lib.hid (mv x n w a);rw[l] at r;rw[c,b];clear h l c b a;go_enter func80,ntmps80;go_wp2_with fail;refine r.out.mono ?_;rintro _ _ ⟨rfl,rfl⟩;go_wp2_with fail;go_ret2;exact⟨rfl,rfl⟩
theorem xn (n:Int)(w:World):Calls prog 127 #[.int .i64 n] w λe w'=>e=.returned (.tuple #[.int .i64 (gn n),.int .i64 (gi n)])/\w=w':=by
 have c:=Lib.hid (tH n w);by_cases a:cm n=true
 ·have d:=mm a
  have g:IntKind.i64.wrap (2*n)=2*n:=IW _ (by omega);have f:IntKind.i64.wrap (2*n - 1)=2*n - 1:=IW _ (by omega);rw[show gn n=2*n - 1 from if_pos a,show gi n=0 from if_pos a];rw[a] at c;clear a d;go_enter func127,ntmps127;go_wp2_with fail;refine c.out.mono ?_;rintro _ _ ⟨rfl,rfl⟩;go_wp2_with fail;go_ret2;exact⟨rfl,rfl⟩
 ·have b:cm n=false:=by rw[Lg];exact a
  rw[show gn n=0 from if_neg a,show gi n=1 from if_neg a];rw[b] at c;clear a b;go_enter func127,ntmps127;go_wp2_with fail;refine c.out.mono ?_;rintro _ _ ⟨rfl,rfl⟩;go_wp2_with fail;go_ret2;exact⟨rfl,rfl⟩
theorem lR {k:Nat}(h:k<=10):((2 ^ k:Nat):Int)<=1024/\1<=((2 ^ k:Nat):Int):=by have:=bP h;have:=bC k;omega
theorem xu (k:Nat)(h:k<=10):IntKind.i64.wrap (1*2 ^ k)=((2 ^ k:Nat):Int):=by
 have a:=lR h;have e:(1:Int)*2 ^ k=((2 ^ k:Nat):Int):=by push_cast;omega
 rw[e];exact IW _ (by omega)
theorem xv (k:Nat)(h:k<=10):IntKind.i64.wrap (2 ^ k)=((2 ^ k:Nat):Int):=by
 have:=xu k h;rwa [Int.one_mul] at this
theorem Eb (k:Nat)(h:k<=10):IntKind.i64.wrap (-1*2 ^ k) = -((2 ^ k:Nat):Int):=by
 have a:=lR h;have e:(-1:Int)*2 ^ k = -((2 ^ k:Nat):Int):=by push_cast;omega
 rw[e];exact IW _ (by omega)
theorem xx (j q:Nat)(s:Int)(w:World)(c:j+1<=10)(b:q<2 ^ (10 - (j+1)))(a:s=1\/s = -1)(d:Tab w):
  Calls prog 165 #[.int .i64 ((nd (j+1) q:Nat):Int),.int .i64 s] w λe w'=>e=.returned (.tuple #[.int .i64 (((nd (j+1) q:Nat):Int)+s*((2 ^ j:Nat):Int)),.int .i64 0])/\w=w':=by
 have f:=Lib.hid (kX ((nd (j+1) q:Nat):Int) w d);rw[fm c b] at f;have g:=(eC ((nd (j+1) q:Nat):Int)).2 ⟨j+1,q,rfl,c,b⟩;obtain⟨m,l⟩:=lR (k:=j) (by omega);have t:IntKind.i64.wrap (((j+1:Nat):Int) - 1)=(j:Int):=by rw[IW _ (by omega)];omega
 have i:¬((j+1:Nat):Int)=0:=by omega
 have h:(((j+1:Nat):Int)==0)=false:=Jd.2 i;have r:IntKind.i64.wrap (s*2 ^ j)=s*((2 ^ j:Nat):Int):=by
  rcases a with rfl|rfl
  ·rw[xu j (by omega)];omega
  ·rw[Eb j (by omega)];omega
 have p:IntKind.i64.wrap (((nd (j+1) q:Nat):Int)+s*((2 ^ j:Nat):Int))=((nd (j+1) q:Nat):Int)+s*((2 ^ j:Nat):Int):=IW _ (by rcases a with rfl|rfl <;> omega);have o:((j:Int)).toNat=j:=Jm j;have n:(j:Int)<=64:=by omega
 generalize s*((2 ^ j:Nat):Int)=M at *;generalize ((j+1:Nat):Int)=u at *;generalize ((nd (j+1) q:Nat):Int)=X at *;clear g b c d m l a;go_enter func165,ntmps165;go_wp2_with fail;refine f.out.mono ?_;rintro _ _ ⟨rfl,rfl⟩;go_wp2_with fail;go_ret2;exact⟨rfl,rfl⟩
theorem xy (x s:Int)(w:World)(h:eD x=0)(a:Tab w):
  Calls prog 165 #[.int .i64 x,.int .i64 s] w λe w'=>e=.returned (.tuple #[.int .i64 0,.int .i64 1])/\w=w':=by
 have b:=Lib.hid (kX x w a);rw[h] at b;clear h a;go_enter func165,ntmps165;go_wp2_with fail;refine b.out.mono ?_;rintro _ _ ⟨rfl,rfl⟩;go_wp2_with fail;go_ret2;exact⟨rfl,rfl⟩
theorem xz (x:Int):eD x=0\/∃ j q,x=((nd (j+1) q:Nat):Int)/\j+1<=10/\q<2 ^ (10 - (j+1)):=by
 by_cases h:okN x
 ·obtain⟨j,q,rfl,b,a⟩:=(eC x).1 h
  cases j with
  | zero=>exact .inl (fm b a)
  | succ j=>exact .inr ⟨j,q,rfl,b,a⟩
 ·exact .inl (mn h)
theorem sm (x:Int)(w:World)(a:Tab w):Calls prog 128 #[.int .i64 x] w λe w'=>e=.returned (.tuple #[.int .i64 (eJ x),.int .i64 (chE x)])/\w=w':=by
 have H:Hid (Calls prog 165 #[.int .i64 x,.int .i64 (-1)] w λe w'=>e=.returned (.tuple #[.int .i64 (eJ x),.int .i64 (chE x)])/\w=w'):=by
  rcases xz x with h|⟨j,q,rfl,f,d⟩
  ·have c:eJ x=0:=if_pos h
   have b:chE x=1:=if_pos h;rw[c,b];exact xy x (-1) w h a
  ·obtain⟨c,b,_⟩:=fD f d
   obtain⟨i,g⟩:=kP j q;have:=xx j q (-1) w f d (.inr rfl) a;rw[c,b];rwa [show((nd (j+1) q:Nat):Int)+-1*((2 ^ j:Nat):Int)=((nd j (2*q):Nat):Int) by omega] at this
 clear a;go_enter func128,ntmps128;go_wp2_with fail;refine H.out.mono ?_;rintro _ _ ⟨rfl,rfl⟩;go_wp2_with fail;go_ret2;exact⟨rfl,rfl⟩
theorem xA (x:Int)(w:World)(a:Tab w):Calls prog 129 #[.int .i64 x] w λe w'=>e=.returned (.tuple #[.int .i64 (fb x),.int .i64 (chE x)])/\w=w':=by
 have H:Hid (Calls prog 165 #[.int .i64 x,.int .i64 1] w λe w'=>e=.returned (.tuple #[.int .i64 (fb x),.int .i64 (chE x)])/\w=w'):=by
  rcases xz x with h|⟨j,q,rfl,f,d⟩
  ·have c:fb x=0:=if_pos h
   have b:chE x=1:=if_pos h;rw[c,b];exact xy x 1 w h a
  ·obtain⟨c,_,b⟩:=fD f d
   have g:=kQ j q;have:=xx j q 1 w f d (.inl rfl) a;rw[c,b];rwa [show((nd (j+1) q:Nat):Int)+1*((2 ^ j:Nat):Int)=((nd j (2*q+1):Nat):Int) by omega] at this
 clear a;go_enter func129,ntmps129;go_wp2_with fail;refine H.out.mono ?_;rintro _ _ ⟨rfl,rfl⟩;go_wp2_with fail;go_ret2;exact⟨rfl,rfl⟩
theorem Ec (j q:Nat)(w:World)(i:j<10)(a:q<2 ^ (10 - j))(b:Tab w):
  Calls prog 164 #[.int .i64 ((nd j q:Nat):Int)] w λe w'=>e=.returned (.int .i64 ((nd (j+1) (q / 2):Nat):Int))/\w=w':=by
 have f:=Lib.hid (kX ((nd j q:Nat):Int) w b);rw[fm (by omega) a] at f;have g:=(eC ((nd j q:Nat):Int)).2 ⟨j,q,rfl,by omega,a⟩;obtain⟨m,l⟩:=lR (k:=j) (by omega);have u:=xv j (by omega);have t:IntKind.i64.wrap (2*((2 ^ j:Nat):Int))=((2 ^ (j+1):Nat):Int):=by rw[bi,IW _ (by omega)];omega
 have d:=tv (nd j q) (2 ^ (j+1)) (by omega) (by rw[bi];omega);rw[zw] at d;have s:((j:Int)).toNat=j:=Jm j;have r:(j:Int)<=64:=by omega
 by_cases h:q % 2=0
 ·have c:=tz j q h
  have o:IntKind.i64.wrap (((nd j q:Nat):Int)+((2 ^ j:Nat):Int))=((nd (j+1) (q / 2):Nat):Int):=by rw[IW _ (by omega)];omega
  rw[if_pos h] at d;generalize ((nd (j+1) (q / 2):Nat):Int)=Y at *;generalize ((2 ^ (j+1):Nat):Int)=B at *;generalize ((nd j q:Nat):Int)=X at *;generalize ((2 ^ j:Nat):Int)=A at *;clear g a i b m l h c;go_enter func164,ntmps164;go_wp2_with fail;refine f.out.mono ?_;rintro _ _ ⟨rfl,rfl⟩;go_wp2_with fail;go_ret;exact⟨rfl,rfl⟩
 ·obtain⟨c,n⟩:=tA j q h
  have o:IntKind.i64.wrap (((nd j q:Nat):Int) - ((2 ^ j:Nat):Int))=((nd (j+1) (q / 2):Nat):Int):=by rw[IW _ (by omega)];omega
  rw[if_neg h] at d;have p:(((2 ^ (j+1):Nat):Int)==0)=false:=Jd.2 (by have:=bC (j+1);omega);generalize ((nd (j+1) (q / 2):Nat):Int)=Y at *;generalize ((2 ^ (j+1):Nat):Int)=B at *;generalize ((nd j q:Nat):Int)=X at *;generalize ((2 ^ j:Nat):Int)=A at *;clear g a i b m l h c n;go_enter func164,ntmps164;go_wp2_with fail;refine f.out.mono ?_;rintro _ _ ⟨rfl,rfl⟩;go_wp2_with fail;go_ret;exact⟨rfl,rfl⟩
theorem Ed (n:Int)(w:World)(a:-9223372036854775807<=n/\n<=9223372036854775807):Calls prog 163 #[.int .i64 n] w λe w'=>e=.returned (.int .i64 (n - 1))/\w=w':=by
 have b:IntKind.i64.wrap (n - 1)=n - 1:=IW _ (by omega);go_enter func163,ntmps163;go_wp2_with fail;go_ret;exact⟨rfl,rfl⟩
theorem xB {K:Nat}(b:K<=10)(a:q<2 ^ (K - j)):q<2 ^ (10 - j):=Jh a (Kd (by omega) (by omega))
theorem Ee (j q:Nat)(w:World)(d:j<10)(a:q<2 ^ (10 - j)):
  Calls prog 126 #[.int .i64 ((nd j q:Nat):Int),.int .i64 ((nd (j+1) (q / 2):Nat):Int)] w λe w'=>e=.returned (.int .i64 ((nd j (sq q):Nat):Int))/\w=w':=by
 have f:=zx j q;have c:=(eC ((nd j q:Nat):Int)).2 ⟨j,q,rfl,by omega,a⟩;have b:=(eC ((nd (j+1) (q / 2):Nat):Int)).2 ⟨j+1,q / 2,rfl,by omega,by
  have:2 ^ (10 - j)=2*2 ^ (10 - (j+1)):=by rw[show 10 - j=(10 - (j+1))+1 by omega,bi]
  omega⟩
 have h:IntKind.i64.wrap (2*((nd (j+1) (q / 2):Nat):Int))=2*((nd (j+1) (q / 2):Nat):Int):=IW _ (by omega);have g:IntKind.i64.wrap (2*((nd (j+1) (q / 2):Nat):Int) - ((nd j q:Nat):Int))=((nd j (sq q):Nat):Int):=by rw[IW _ (by omega)];omega
 generalize ((nd (j+1) (q / 2):Nat):Int)=Y at *;generalize ((nd j q:Nat):Int)=X at *;generalize ((nd j (sq q):Nat):Int)=Z at *;clear f c b a d;go_enter func126,ntmps126;go_wp2_with fail;go_ret;exact⟨rfl,rfl⟩
theorem Ef (x:Int)(w:World)(g:Tab w):Calls prog 119 #[.int .i64 x] w λe w'=>e=.returned (.tuple #[.int .i64 (loV x),.int .i64 (hiV x)])/\w=w':=by
 have c:=Lib.hid (oC x 1024 w);rw[tI] at c;by_cases h:okN x
 ·obtain⟨j,q,rfl,d,f⟩:=(eC x).1 h
  rw[Jy h] at c;obtain⟨b,a⟩:=mu d f;rw[b,a];have i:=Lib.hid (kX ((nd j q:Nat):Int) w g);rw[fm d f] at i;have k:0<=((nd j q:Nat):Int)/\((nd j q:Nat):Int)<=2046:=h;obtain⟨r,p⟩:=lR d;obtain⟨o,n⟩:=zn j q;have m:2 ^ j - 1<=nd j q:=by unfold nd;omega
  have D:=xv j d;have C:IntKind.i64.wrap (((2 ^ j:Nat):Int) - 1)=((2 ^ j:Nat):Int) - 1:=IW _ (by omega);have B:IntKind.i64.wrap (((nd j q:Nat):Int) - (((2 ^ j:Nat):Int) - 1))=((nd j q - (2 ^ j - 1):Nat):Int):=by rw[IW _ (by omega)];omega
  have z:IntKind.i64.wrap (((nd j q:Nat):Int)+(((2 ^ j:Nat):Int) - 1))=((nd j q+(2 ^ j - 1):Nat):Int):=by rw[IW _ (by omega)];omega
  have u:((nd j q - (2 ^ j - 1):Nat):Int).tdiv 2=((2 ^ j*q:Nat):Int):=by rw[JK (by omega)];omega
  have t:((nd j q+(2 ^ j - 1):Nat):Int).tdiv 2=((2 ^ j*q+2 ^ j - 1:Nat):Int):=by rw[JK (by omega)];omega
  have s:IntKind.i64.wrap ((2 ^ j*q:Nat):Int)=((2 ^ j*q:Nat):Int):=IW _ (by omega);have l:IntKind.i64.wrap ((2 ^ j*q+2 ^ j - 1:Nat):Int)=((2 ^ j*q+2 ^ j - 1:Nat):Int):=IW _ (by omega);have y:((j:Int)).toNat=j:=Jm j;have v:(j:Int)<=64:=by omega
  generalize ((nd j q - (2 ^ j - 1):Nat):Int)=U at *;generalize ((nd j q+(2 ^ j - 1):Nat):Int)=V at *;generalize ((2 ^ j*q:Nat):Int)=E at *;generalize ((2 ^ j*q+2 ^ j - 1:Nat):Int)=F at *;generalize ((nd j q:Nat):Int)=X at *;generalize ((2 ^ j:Nat):Int)=A at *;clear h k r p o n m b a f g;go_enter func119,ntmps119;go_wp2_with fail;refine c.out.mono ?_;rintro _ _ ⟨rfl,rfl⟩;go_wp2_with fail;refine i.out.mono ?_;rintro _ _ ⟨rfl,rfl⟩;go_wp2_with fail;go_ret2;exact⟨rfl,rfl⟩
 ·rw[Jr h] at c
  obtain⟨b,a⟩:=tu h;rw[b,a];clear h b a g;go_enter func119,ntmps119;go_wp2_with fail;refine c.out.mono ?_;rintro _ _ ⟨rfl,rfl⟩;go_wp2_with fail;go_ret2;exact⟨rfl,rfl⟩
def pG (P:Program)(gf:Nat)(lb:Array Value)(T:Nat->Array Value->(Nat->Prop)->World->Prop)(N:Nat)(R:Nat->Prop)(w:World):Prop:=
 ∀ (l:Nat) (J Jx:Nat->(Nat->Prop)->World->Prop) (W:World),aT R w W->w.heap.size<=l->l<W.heap.size ->
  (∀ i,dO W.heap.size (J i))->(∀ i,dO W.heap.size (Jx i)) ->
  (∀ i Y A v m,i<N->J i Y A->(∀ k,Y k->W.heap.size<=k/\k<A.heap.size)->aT R w A->T i v Y A ->
   YieldAt Fence.wide m P l v A λe B=>aT (λk=>Y k\/R k) A B/\((e=.returned (.bool true)/\J (i+1) Y B)\/(e=.returned (.bool false)/\Jx i Y B))) ->
  J 0 (λ_=>False) W ->
  Calls P gf (#[.func (.yield l) #[] #[]]++lb) W λe B=>(∃ v,e=.returned v)/\∃ Y,(∀ k,Y k->W.heap.size<=k/\k<B.heap.size)/\(J N Y B\/∃ i,i<N/\Jx i Y B)
theorem sn {assign body:Code}
    (hg:a.eval g=.func (.func gf) #[] lb) (eg:∀ args w,(callFunc gf args).run P w=.ok (.enter gf args) w)
  {T:Nat->Array Value->(Nat->Prop)->World->Prop}    (af:Kp w0 w) (ao:∀ k,R k->k<w0.heap.size) (ax:pG P gf lb T N R w0) (aG:∀ i v Y A,T i v Y A->v.size=ps.size)
  (I:Nat->(Nat->Prop)->World->Prop) (Ix:Code->Nat->(Nat->Prop)->World->Prop)
  (hI:∀ i,dO w.heap.size (I i)) (aq:∀ c i,dO w.heap.size (Ix c i))
  (aP:∀ i v q Y A B l o,T i v q A->(∀ k,q k->Y k)->(∀ k,Y k->q k\/∃ o:Obj,A.heap[k]?=some o/\o.isCells=false)->w.heap.size<=l->A.heap[l]?=some (.loop o)->am (λk=>k=l) A B->T i v Y B)
  (h0:I 0 (λ_=>False) w) (Ax:Array Value->Act->World->Prop)
  (aW:∀ v M A l o o',Ax v M A->w.heap.size<=l->A.heap[l]?=some (.loop o)->Ax v M (A.putObj l o'))
  (ad:∀ (l i:Nat) (Y q:Nat->Prop) (v:Array Value) (A:World) (K:Act->World->Prop),I i Y A->T i v q A->(∀ M A',Kp A A'->Ax v M A'->K M A') ->
   assign.wpIn (Fence.wide.inRound l) 4 P (Exit.then K (λ_ _ _=>False)) { tmps:=(ps.zip v).foldl (λt (p,v)=>t.setIfInBounds p v) a.tmps,defers:=[] } A)
  (an:∀ (l i:Nat) (Y:Nat->Prop) (v:Array Value) (M:Act) (A:World),i<N->I i Y A->(∀ k,Y k->w.heap.size<=k/\k<A.heap.size)->aT R w A->T i v Y A->Ax v M A ->
   body.wpIn (Fence.wide.inRound l) 4 P (λe _ B=>aT (λk=>Y k\/R k) A B/\((e=.normal/\I (i+1) Y B)\/∃ c,kV e=some c/\Ix c i Y B)) M A)
  (al:∀ (D:Nat) (Y:Nat->Prop) (W:World),w.heap.size<=D->Y D->(∀ k,Y k->w.heap.size<=k)->I N Y W->W.heap[D]?=some (.deferred (some []))->Q .normal { a with defers:={ target:=.collected D,args:=#[] } :: a.defers } W)
  (ag:∀ (D:Nat) (c:Code) (i:Nat) (Y:Nat->Prop) (W:World),w.heap.size<=D->Y D->(∀ k,Y k->w.heap.size<=k)->i<N->Ix c i Y W->W.heap[D]?=some (.deferred (some []))->c.wp P Q { a with defers:={ target:=.collected D,args:=#[] } :: a.defers } W):
  (Code.rangeFunc g ps assign body).wp P Q a w:=by
 have hR:∀ k,R k->k<w.heap.size:=λk b=>Jh (ao k b) af.size
 refine(wpIn_wide (n:=6)).1 (wpIn_rangeFunc ?_);intro fn aJ;rw[show Fence.wide.round=none from rfl];let rec':LoopState->Option Code->Loop:=λst pe=>{ state:=st,pending:=pe,fn,tmps:=a.tmps,params:=ps,assign,body,defers:=w.heap.size }
 obtain⟨H,ae⟩:∃ H,(w.alloc (.deferred (some []))).alloc (.loop (rec' .ready none))=H:=⟨_,rfl⟩;have aV:H.heap[w.heap.size]?=some (.deferred (some [])):=by
  rw[<-ae];exact(Below.heap_alloc _ _ _ (by simp)).trans (heap_alloc_new w _)
 have aS:H.heap[w.heap.size+1]?=some (.loop (rec' .ready none)):=by
  rw[<-ae];have:=heap_alloc_new (w.alloc (.deferred (some []))) (.loop (rec' .ready none));rwa [Jn] at this
 have aX:H.heap.size=w.heap.size+2:=by rw[<-ae];simp
 have aA:Kp w H:=by rw[<-ae];exact((Kp.refl w).alloc _).alloc _
 let V:Nat->(Nat->Prop)->World->(Nat->Prop)->Prop:=λi q A Y=>I i Y A/\(∀ k,q k->Y k)/\(∀ k,Y k->q k\/k=w.heap.size\/k=w.heap.size+1)/\(∀ k,Y k->w.heap.size<=k/\k<A.heap.size)/\Y w.heap.size/\Y (w.heap.size+1) /\
  A.heap[w.heap.size]?=some (.deferred (some []))/\A.heap[w.heap.size+1]?=some (.loop (rec' .ready none))
 let Vx:Nat->(Nat->Prop)->World->(Nat->Prop)->Code->Prop:=λi q A Y c=>Ix c i Y A/\(∀ k,q k->Y k)/\(∀ k,Y k->q k\/k=w.heap.size\/k=w.heap.size+1)/\(∀ k,Y k->w.heap.size<=k/\k<A.heap.size)/\Y w.heap.size/\Y (w.heap.size+1) /\
  A.heap[w.heap.size]?=some (.deferred (some []))/\A.heap[w.heap.size+1]?=some (.loop (rec' .done (some c)))
 have hV:∀ i,dO H.heap.size (λq A=>∃ Y,V i q A Y):=by
  rintro i q au A B ⟨Y,hi,s,y,d,j,f,hd,J⟩ x r Z;have ah:¬q w.heap.size:=λe=>by have:=(x _ e).1;omega
  have F:¬q (w.heap.size+1):=λe=>by have:=(x _ e).1;omega
  have ar:=(d _ j).2;have ap:=(d _ f).2;refine⟨λk=>au k\/k=w.heap.size\/k=w.heap.size+1,hI i Y _ A B hi d (r.mono s) (λk b=>?_),λk b=>.inl b,λk b=>b,λk b=>?_,.inr (.inl rfl),.inr (.inr rfl),(r.block _ ar ah).trans hd,(r.block _ ap F).trans J⟩
  ·rcases b with b|rfl|rfl
   ·exact(Z k b).imp (s k) id
   ·exact .inl j
   ·exact .inl f
  ·have:=r.size
   rcases b with b|rfl|rfl
   ·rcases Z k b with h|h
    ·have:=d k (s k h);omega
    ·have:=d _ j;omega
   ·omega
   ·omega
 have aN:∀ i,dO H.heap.size (λq A=>∃ Y c,Vx i q A Y c):=by
  rintro i q au A B ⟨Y,c,hi,s,y,d,j,f,hd,J⟩ x r Z;have ah:¬q w.heap.size:=λe=>by have:=(x _ e).1;omega
  have F:¬q (w.heap.size+1):=λe=>by have:=(x _ e).1;omega
  have ar:=(d _ j).2;have ap:=(d _ f).2;refine⟨λk=>au k\/k=w.heap.size\/k=w.heap.size+1,c,aq c i Y _ A B hi d (r.mono s) (λk b=>?_),λk b=>.inl b,λk b=>b,λk b=>?_,.inr (.inl rfl),.inr (.inr rfl),(r.block _ ar ah).trans hd,(r.block _ ap F).trans J⟩
  ·rcases b with b|rfl|rfl
   ·exact(Z k b).imp (s k) id
   ·exact .inl j
   ·exact .inl f
  ·have:=r.size
   rcases b with b|rfl|rfl
   ·rcases Z k b with h|h
    ·have:=d k (s k h);omega
    ·have:=d _ j;omega
   ·omega
   ·omega
 refine⟨w.heap.size+1,[{ target:=.collected w.heap.size,args:=#[] }],H,{ target:=.fn (.func gf) lb,args:=#[.func (.yield (w.heap.size+1)) #[] #[]] },H,gf,
  #[.func (.yield (w.heap.size+1)) #[] #[]]++lb,H,?_,?_,?_,?_,λ_=>by omega,?_⟩
 ·rw[<-ae];exact run_enterLoop_outer _ _ _ _ _
 ·simp only[resolve,hg]
  simp[go_sem]
 ·intro f' aY
  trivial
 ·simp[invoke,go_sem,eg]
 ·refine callsIn_wide.2 ((ax (w.heap.size+1) (λi q A=>∃ Y,V i q A Y) (λi q A=>∃ Y c,Vx i q A Y c) H (aT.of_kp (af.trans aA)) (by have:=af.size;omega) (by omega) hV aN ?_
   ⟨λk=>k=w.heap.size\/k=w.heap.size+1,hI 0 _ _ w H h0 (λk b=>b.elim) (am.of_kp aA) (λk b=>.inr (by rcases b with rfl|rfl <;> omega)),λk b=>b.elim,λk b=>.inr b,λk b=>by rcases b with rfl|rfl <;> omega,.inl rfl,.inr rfl,aV,aS⟩).mono ?_)
  ·rintro i q A v m hi ⟨Y,aE,s,y,d,j,f,hd,J⟩ x aD hT
   have aR:aT R w A:=⟨by have:=(d _ f).2;omega,λk _ U=>(aD.block k (ao k U) U).trans (af.block k (ao k U)).symm⟩;have ai:w.heap.size+1<A.heap.size:=(d _ f).2;have hy:=run_yield (P:=P) (args:=v) J (aG i v q A hT);have aO:∀ B,am (λk=>k=w.heap.size+1) A B->T i v Y B:=λB hB=>aP i v q Y A B _ _ hT s (λk b=>(y k b).imp id (λh=>h.elim (λe=>⟨_,e▸hd,rfl⟩) (λe=>⟨_,e▸J,rfl⟩))) (by omega) J hB
   have aQ:∀ k,R k->k≠w.heap.size+1:=λk b=>by have:=hR k b;omega
   refine YieldAt.anyDepth m (m:=4) ⟨fn,_,assign,body,hy,roundIn_of_wpIn aJ (ad _ i Y q v A _ aE hT ?_)⟩;intro M A1 X aM;have aj:=(X.block _ ai).trans J;have aL:=(X.block _ (d _ j).2).trans hd;refine⟨_,run_beginRound aj rfl,?_⟩;have az:w.heap.size+1<A1.heap.size:=(IX.1 aj).1;obtain⟨E,z⟩:∃ E,A1.putObj (w.heap.size+1) (.loop { rec' .ready none with state:=.busy })=E:=⟨_,rfl⟩;rw[z];have aw:am (λk=>k=w.heap.size+1) A E:=by rw[<-z];exact(am.of_kp X).putObj _ _ (.inr rfl)
   have r:am Y A E:=by rw[<-z];exact(am.of_kp X).putObj _ _ (.inr f)
   have aH:E.heap[w.heap.size+1]?=some (.loop { rec' .ready none with state:=.busy }):=by rw[<-z];exact World.putObj_heap_same az
   have aK:E.heap[w.heap.size]?=some (.deferred (some [])):=by rw[<-z];exact(World.putObj_heap_other (by omega)).trans aL
   have aB:Ax v M E:=by rw[<-z];exact aW v M A1 _ _ _ aM (by omega) aj
   have C:∀ k,Y k->w.heap.size<=k/\k<E.heap.size:=λk b=>⟨(d k b).1,Jh (d k b).2 r.size⟩
   have aU:=hI i Y Y A E aE d r (λk b=>.inl b);have aC:aT R w E:=(aR.trans (aT.of_step r (λk b hy=>by have:=hR k b;have:=(d k hy).1;omega)));refine wpIn_mono (an _ i Y v M E hi aU C aC (aO E aw) aB) ?_;have aF:∀ (u:Option Code) (B:World),aT (λk=>Y k\/R k) E B->∃ B',(Instr.endRound (w.heap.size+1) u).run P B=.ok (.bool u.isNone) B' /\
     B'.heap[w.heap.size+1]?=some (.loop (rec' (if u.isNone then .ready else .done) u))/\B'.heap[w.heap.size]?=some (.deferred (some []))/\am Y B B'/\(∀ k,Y k->w.heap.size<=k/\k<B.heap.size)/\aT (λk=>q k\/R k) A B':=λu B hh=>by
    have G:=(hh.block _ (C _ f).2 (.inl f)).trans aH;have ab:=(hh.block _ (C _ j).2 (.inl j)).trans aK;have ay:w.heap.size+1<B.heap.size:=(IX.1 G).1;have F:∀ k,q k\/R k->k≠w.heap.size+1:=λk b=>by
     rcases b with h|h
     ·have:=(x _ h).1;omega
     ·exact aQ k h
    refine⟨_,run_endRound (P:=P) u G,World.putObj_heap_same ay,(World.putObj_heap_other (by omega)).trans ab,(am.refl Y B).putObj _ _ (.inr f),λk b=>⟨(d k b).1,Jh (C k b).2 hh.size⟩,⟨?_,λk b U=>?_⟩⟩
    ·rw[mw];exact Js r.size hh.size
    ·have e1:E.heap[k]?=A.heap[k]?:=by
      rw[<-z];exact(World.putObj_heap_other (F k U)).trans (X.block k b)
     refine(World.putObj_heap_other (F k U)).trans ((hh.block k (Jh b r.size) ?_).trans e1);exact U.elim (λh=>.inl (s k h)) .inr
   have av:∀ (u:Option Code) (B B':World),am Y B B'->(∀ k,Y k->w.heap.size<=k/\k<B.heap.size)->(∀ k,Y k->w.heap.size<=k/\k<B'.heap.size):=λ_ B B' h hy k b=>⟨(hy k b).1,Jh (hy k b).2 h.size⟩
   rintro e a3 B ⟨hh,hp⟩;have go:∀ c,kV e=some c->Ix c i Y B->∃ v B',(Instr.endRound (w.heap.size+1) (some c)).run P B=.ok v B' /\
     (aT (λk=>q k\/R k) A B'/\((Ending.returned v=.returned (.bool true)/\∃ Y,V (i+1) q B' Y)\/(Ending.returned v=.returned (.bool false)/\∃ Y c,Vx i q B' Y c))):=λc L hx=>by
    obtain⟨B',U,G,ab,S,O,ak⟩:=aF (some c) B hh;exact⟨_,B',U,ak,.inr ⟨rfl,Y,c,aq c i Y Y B B' hx O S (λk b=>.inl b),s,y,av none B B' S O,j,f,ab,G⟩⟩
   cases e with
   | normal=>
    rcases hp with⟨_,hi3⟩|⟨c,L,_⟩
    ·obtain⟨B',U,G,ab,S,O,ak⟩:=aF none B hh
     exact⟨_,B',U,ak,.inl ⟨rfl,Y,hI (i+1) Y Y B B' hi3 O S (λk b=>.inl b),s,y,av none B B' S O,j,f,ab,G⟩⟩
    ·cases L
   | ret=>
    rcases hp with⟨h,_⟩|⟨c,L,hx⟩
    ·cases h
    ·cases L;exact go _ rfl hx
   | exit id=>
    rcases hp with⟨h,_⟩|⟨c,L,hx⟩
    ·cases h
    ·cases L;exact go _ rfl hx
   | goto t=>
    rcases hp with⟨h,_⟩|⟨c,L,hx⟩
    ·cases h
    ·cases L;exact go _ rfl hx
   | panic ch=>
    rcases hp with⟨h,_⟩|⟨c,L,_⟩
    ·cases h
    ·cases L
   | outgrown=>
    rcases hp with⟨h,_⟩|⟨c,L,_⟩
    ·cases h
    ·cases L
  ·rintro e W2 ⟨⟨v,rfl⟩,q,x,(⟨Y,hi,s,y,d,j,f,hd,J⟩|⟨i,aI,Y,c,hi,s,y,d,j,f,hd,J⟩)⟩
   ·have ai:w.heap.size+1<W2.heap.size:=(d _ f).2
    have aa:(Instr.endLoop (w.heap.size+1)).run P W2=.ok none (W2.putObj (w.heap.size+1) (.loop (rec' .exhausted none))):=run_endLoop (P:=P) J (by simp[rec']);refine⟨none,_,aa,al _ Y _ (Ja _) j (λk b=>(d k b).1) (hI N Y Y W2 _ hi d ((am.refl _ _).putObj _ _ (.inr f)) (λk b=>.inl b)) ((World.putObj_heap_other (by omega)).trans hd)⟩
   ·have ai:w.heap.size+1<W2.heap.size:=(d _ f).2
    have aa:(Instr.endLoop (w.heap.size+1)).run P W2=.ok (some c) (W2.putObj (w.heap.size+1) (.loop (rec' .exhausted (some c)))):=run_endLoop (P:=P) J (by simp[rec']);exact⟨some c,_,aa,wpIn_wide.2 (ag _ c i Y _ (Ja _) j (λk b=>(d k b).1) aI (aq c i Y Y W2 _ hi d ((am.refl _ _).putObj _ _ (.inr f)) (λk b=>.inl b)) ((World.putObj_heap_other (by omega)).trans hd))⟩
def leads (v:Value)(k:Nat):Prop:=∃ x n c,v=.slice (some x) n c/\0<n/\x.block=k
def yO (P:Program)(gf:Nat)(lb:Array Value)(T:Nat->Value->(Nat->Prop)->World->Prop)(N:Nat)(R:Nat->Prop)(w:World):Prop:=
 ∀ (l:Nat) (J Jx:Nat->(Nat->Prop)->World->Prop) (W:World),aT R w W->w.heap.size<=l->l<W.heap.size ->
  (∀ i,dO W.heap.size (J i))->(∀ i,dO W.heap.size (Jx i))->(∀ Y A,¬J N Y A) ->
  (∀ i Y A v m,i<N->J i Y A->(∀ k,Y k->W.heap.size<=k/\k<A.heap.size)->aT R w A->T i v Y A ->
   YieldAt Fence.wide m P l #[v] A λe B=>aT (λk=>Y k\/R k) A B/\((e=.returned (.bool true)/\J (i+1) (λk=>Y k/\¬leads v k) B)\/(e=.returned (.bool false)/\Jx i (λk=>Y k/\¬leads v k) B))) ->
  J 0 (λ_=>False) W ->
  Calls P gf (#[.func (.yield l) #[] #[]]++lb) W λe B=>(∃ v,e=.returned v)/\∃ Y,(∀ k,Y k->W.heap.size<=k/\k<B.heap.size)/\(J N Y B\/∃ i,i<N/\Jx i Y B)
theorem Hg {assign body:Code}
    (hg:a.eval g=.func (.func gf) #[] lb) (eg:∀ args w,(callFunc gf args).run P w=.ok (.enter gf args) w)
  {T:Nat->Value->(Nat->Prop)->World->Prop}    (ah:Kp w0 w) (ar:∀ k,R k->k<w0.heap.size) (aA:yO P gf lb T N R w0) (aK:ps.size=1)
  (I:Nat->(Nat->Prop)->World->Prop) (Ix:Code->Nat->(Nat->Prop)->World->Prop)
  (hI:∀ i,dO w.heap.size (I i)) (av:∀ c i,dO w.heap.size (Ix c i))
  (aY:∀ Y A,¬I N Y A) (aF:∀ i v Y A,T i v Y A->∀ k,leads v k->Y k\/R k)
  (aU:∀ i v j Y A B l o,T i v j A->(∀ k,j k->Y k)->(∀ k,Y k->j k\/∃ o:Obj,A.heap[k]?=some o/\o.isCells=false)->w.heap.size<=l->A.heap[l]?=some (.loop o)->am (λk=>k=l) A B->T i v Y B)
  (h0:I 0 (λ_=>False) w) (Ax:Value->Act->World->Prop)
  (a1:∀ v O A l o o',Ax v O A->w.heap.size<=l->A.heap[l]?=some (.loop o)->Ax v O (A.putObj l o'))
  (af:∀ (l i:Nat) (Y j:Nat->Prop) (v:Value) (A:World) (K:Act->World->Prop),I i Y A->T i v j A->(∀ O A',Kp A A'->Ax v O A'->K O A') ->
   assign.wpIn (Fence.wide.inRound l) 4 P (Exit.then K (λ_ _ _=>False)) { tmps:=(ps.zip #[v]).foldl (λt (p,v)=>t.setIfInBounds p v) a.tmps,defers:=[] } A)
  (aq:∀ (l i:Nat) (Y:Nat->Prop) (v:Value) (O:Act) (A:World),i<N->I i Y A->(∀ k,Y k->w.heap.size<=k/\k<A.heap.size)->aT R w A->T i v Y A->Ax v O A ->
   body.wpIn (Fence.wide.inRound l) 4 P (λe _ B=>aT (λk=>Y k\/R k) A B/\((e=.normal/\I (i+1) (λk=>Y k/\¬leads v k) B)\/∃ c,kV e=some c/\Ix c i (λk=>Y k/\¬leads v k) B)) O A)
  (ap:∀ (D:Nat) (Y:Nat->Prop) (W:World),w.heap.size<=D->Y D->(∀ k,Y k->w.heap.size<=k)->I N Y W->W.heap[D]?=some (.deferred (some []))->Q .normal { a with defers:={ target:=.collected D,args:=#[] } :: a.defers } W)
  (aj:∀ (D:Nat) (c:Code) (i:Nat) (Y:Nat->Prop) (W:World),w.heap.size<=D->Y D->(∀ k,Y k->w.heap.size<=k)->i<N->Ix c i Y W->W.heap[D]?=some (.deferred (some []))->c.wp P Q { a with defers:={ target:=.collected D,args:=#[] } :: a.defers } W):
  (Code.rangeFunc g ps assign body).wp P Q a w:=by
 have hR:∀ k,R k->k<w.heap.size:=λk b=>Jh (ar k b) ah.size
 refine(wpIn_wide (n:=6)).1 (wpIn_rangeFunc ?_);intro fn aN;rw[show Fence.wide.round=none from rfl];let rec':LoopState->Option Code->Loop:=λst pe=>{ state:=st,pending:=pe,fn,tmps:=a.tmps,params:=ps,assign,body,defers:=w.heap.size }
 obtain⟨J,ag⟩:∃ J,(w.alloc (.deferred (some []))).alloc (.loop (rec' .ready none))=J:=⟨_,rfl⟩;have a0:J.heap[w.heap.size]?=some (.deferred (some [])):=by
  rw[<-ag];exact(Below.heap_alloc _ _ _ (by simp)).trans (heap_alloc_new w _)
 have aX:J.heap[w.heap.size+1]?=some (.loop (rec' .ready none)):=by
  rw[<-ag];have:=heap_alloc_new (w.alloc (.deferred (some []))) (.loop (rec' .ready none));rwa [Jn] at this
 have a2:J.heap.size=w.heap.size+2:=by rw[<-ag];simp
 have aD:Kp w J:=by rw[<-ag];exact((Kp.refl w).alloc _).alloc _
 let V:Nat->(Nat->Prop)->World->(Nat->Prop)->Prop:=λi j A Y=>I i Y A/\(∀ k,j k->Y k)/\(∀ k,Y k->j k\/k=w.heap.size\/k=w.heap.size+1)/\(∀ k,Y k->w.heap.size<=k/\k<A.heap.size)/\Y w.heap.size/\Y (w.heap.size+1) /\
  A.heap[w.heap.size]?=some (.deferred (some []))/\A.heap[w.heap.size+1]?=some (.loop (rec' .ready none))
 let Vx:Nat->(Nat->Prop)->World->(Nat->Prop)->Code->Prop:=λi j A Y c=>Ix c i Y A/\(∀ k,j k->Y k)/\(∀ k,Y k->j k\/k=w.heap.size\/k=w.heap.size+1)/\(∀ k,Y k->w.heap.size<=k/\k<A.heap.size)/\Y w.heap.size/\Y (w.heap.size+1) /\
  A.heap[w.heap.size]?=some (.deferred (some []))/\A.heap[w.heap.size+1]?=some (.loop (rec' .done (some c)))
 have hV:∀ i,dO J.heap.size (λj A=>∃ Y,V i j A Y):=by
  rintro i j ax A B ⟨Y,hi,s,y,d,q,f,hd,L⟩ x r ab;have ak:¬j w.heap.size:=λe=>by have:=(x _ e).1;omega
  have G:¬j (w.heap.size+1):=λe=>by have:=(x _ e).1;omega
  have aw:=(d _ q).2;have au:=(d _ f).2;refine⟨λk=>ax k\/k=w.heap.size\/k=w.heap.size+1,hI i Y _ A B hi d (r.mono s) (λk b=>?_),λk b=>.inl b,λk b=>b,λk b=>?_,.inr (.inl rfl),.inr (.inr rfl),(r.block _ aw ak).trans hd,(r.block _ au G).trans L⟩
  ·rcases b with b|rfl|rfl
   ·exact(ab k b).imp (s k) id
   ·exact .inl q
   ·exact .inl f
  ·have:=r.size
   rcases b with b|rfl|rfl
   ·rcases ab k b with h|h
    ·have:=d k (s k h);omega
    ·have:=d _ q;omega
   ·omega
   ·omega
 have aR:∀ i,dO J.heap.size (λj A=>∃ Y c,Vx i j A Y c):=by
  rintro i j ax A B ⟨Y,c,hi,s,y,d,q,f,hd,L⟩ x r ab;have ak:¬j w.heap.size:=λe=>by have:=(x _ e).1;omega
  have G:¬j (w.heap.size+1):=λe=>by have:=(x _ e).1;omega
  have aw:=(d _ q).2;have au:=(d _ f).2;refine⟨λk=>ax k\/k=w.heap.size\/k=w.heap.size+1,c,av c i Y _ A B hi d (r.mono s) (λk b=>?_),λk b=>.inl b,λk b=>b,λk b=>?_,.inr (.inl rfl),.inr (.inr rfl),(r.block _ aw ak).trans hd,(r.block _ au G).trans L⟩
  ·rcases b with b|rfl|rfl
   ·exact(ab k b).imp (s k) id
   ·exact .inl q
   ·exact .inl f
  ·have:=r.size
   rcases b with b|rfl|rfl
   ·rcases ab k b with h|h
    ·have:=d k (s k h);omega
    ·have:=d _ q;omega
   ·omega
   ·omega
 refine⟨w.heap.size+1,[{ target:=.collected w.heap.size,args:=#[] }],J,{ target:=.fn (.func gf) lb,args:=#[.func (.yield (w.heap.size+1)) #[] #[]] },J,gf,
  #[.func (.yield (w.heap.size+1)) #[] #[]]++lb,J,?_,?_,?_,?_,λ_=>by omega,?_⟩
 ·rw[<-ag];exact run_enterLoop_outer _ _ _ _ _
 ·simp only[resolve,hg]
  simp[go_sem]
 ·intro f' a4
  trivial
 ·simp[invoke,go_sem,eg]
 ·refine callsIn_wide.2 ((aA (w.heap.size+1) (λi j A=>∃ Y,V i j A Y) (λi j A=>∃ Y c,Vx i j A Y c) J (aT.of_kp (ah.trans aD)) (by have:=ah.size;omega) (by omega) hV aR (λj A ⟨Y,h⟩=>aY Y A h.1) ?_
   ⟨λk=>k=w.heap.size\/k=w.heap.size+1,hI 0 _ _ w J h0 (λk b=>b.elim) (am.of_kp aD) (λk b=>.inr (by rcases b with rfl|rfl <;> omega)),λk b=>b.elim,λk b=>.inr b,λk b=>by rcases b with rfl|rfl <;> omega,.inl rfl,.inr rfl,a0,aX⟩).mono ?_)
  ·rintro i j A v m hi ⟨Y,aI,s,y,d,q,f,hd,L⟩ x aH hT
   have aW:aT R w A:=⟨by have:=(d _ f).2;omega,λk _ X=>(aH.block k (ar k X) X).trans (ah.block k (ar k X)).symm⟩;have al:w.heap.size+1<A.heap.size:=(d _ f).2;have hy:=run_yield (P:=P) (args:=#[v]) L (by show(#[v]:Array Value).size=ps.size;rw[aK];rfl);have aS:∀ B,am (λk=>k=w.heap.size+1) A B->T i v Y B:=λB hB=>aU i v j Y A B _ _ hT s (λk b=>(y k b).imp id (λh=>h.elim (λe=>⟨_,e▸hd,rfl⟩) (λe=>⟨_,e▸L,rfl⟩))) (by omega) L hB
   have aV:∀ k,R k->k≠w.heap.size+1:=λk b=>by have:=hR k b;omega
   refine YieldAt.anyDepth m (m:=4) ⟨fn,_,assign,body,hy,roundIn_of_wpIn aN (af _ i Y j v A _ aI hT ?_)⟩;intro O A1 aa aQ;have an:=(aa.block _ al).trans L;have aP:=(aa.block _ (d _ q).2).trans hd;refine⟨_,run_beginRound an rfl,?_⟩;have aC:w.heap.size+1<A1.heap.size:=(IX.1 an).1;obtain⟨F,z⟩:∃ F,A1.putObj (w.heap.size+1) (.loop { rec' .ready none with state:=.busy })=F:=⟨_,rfl⟩;rw[z];have az:am (λk=>k=w.heap.size+1) A F:=by rw[<-z];exact(am.of_kp aa).putObj _ _ (.inr rfl)
   have r:am Y A F:=by rw[<-z];exact(am.of_kp aa).putObj _ _ (.inr f)
   have aL:F.heap[w.heap.size+1]?=some (.loop { rec' .ready none with state:=.busy }):=by rw[<-z];exact World.putObj_heap_same aC
   have aO:F.heap[w.heap.size]?=some (.deferred (some [])):=by rw[<-z];exact(World.putObj_heap_other (by omega)).trans aP
   have aE:Ax v O F:=by rw[<-z];exact a1 v O A1 _ _ _ aQ (by omega) an
   have C:∀ k,Y k->w.heap.size<=k/\k<F.heap.size:=λk b=>⟨(d k b).1,Jh (d k b).2 r.size⟩
   have aZ:=hI i Y Y A F aI d r (λk b=>.inl b);have aG:aT R w F:=(aW.trans (aT.of_step r (λk b hy=>by have:=hR k b;have:=(d k hy).1;omega)));refine wpIn_mono (aq _ i Y v O F hi aZ C aG (aS F az) aE) ?_;have aJ:∀ (u:Option Code) (B:World),aT (λk=>Y k\/R k) F B->∃ B',(Instr.endRound (w.heap.size+1) u).run P B=.ok (.bool u.isNone) B' /\
     B'.heap[w.heap.size+1]?=some (.loop (rec' (if u.isNone then .ready else .done) u))/\B'.heap[w.heap.size]?=some (.deferred (some []))/\(∀ Z:Nat->Prop,Z (w.heap.size+1)->am Z B B')/\(∀ k,Y k->w.heap.size<=k/\k<B.heap.size)/\aT (λk=>j k\/R k) A B':=λu B hh=>by
    have H:=(hh.block _ (C _ f).2 (.inl f)).trans aL;have ae:=(hh.block _ (C _ q).2 (.inl q)).trans aO;have aB:w.heap.size+1<B.heap.size:=(IX.1 H).1;have G:∀ k,j k\/R k->k≠w.heap.size+1:=λk b=>by
     rcases b with h|h
     ·have:=(x _ h).1;omega
     ·exact aV k h
    refine⟨_,run_endRound (P:=P) u H,World.putObj_heap_same aB,(World.putObj_heap_other (by omega)).trans ae,λZ hZ=>(am.refl Z B).putObj _ _ (.inr hZ),λk b=>⟨(d k b).1,Jh (C k b).2 hh.size⟩,⟨?_,λk b X=>?_⟩⟩
    ·rw[mw];exact Js r.size hh.size
    ·have e1:F.heap[k]?=A.heap[k]?:=by
      rw[<-z];exact(World.putObj_heap_other (G k X)).trans (aa.block k b)
     refine(World.putObj_heap_other (G k X)).trans ((hh.block k (Jh b r.size) ?_).trans e1);exact X.elim (λh=>.inl (s k h)) .inr
   have ay:∀ (u:Option Code) (B B':World),am Y B B'->(∀ k,Y k->w.heap.size<=k/\k<B.heap.size)->(∀ k,Y k->w.heap.size<=k/\k<B'.heap.size):=λ_ B B' h hy k b=>⟨(hy k b).1,Jh (hy k b).2 h.size⟩
   rintro e a3 B ⟨hh,hp⟩;have ai:¬leads v w.heap.size:=λh=>(aF i v j A hT _ h).elim (λh1=>by have:=(x _ h1).1;omega) λh1=>by have:=hR _ h1;omega
   have E:¬leads v (w.heap.size+1):=λh=>(aF i v j A hT _ h).elim (λh1=>by have:=(x _ h1).1;omega) λh1=>by have:=hR _ h1;omega
   have go:∀ c,kV e=some c->Ix c i (λk=>Y k/\¬leads v k) B->∃ v0 B',(Instr.endRound (w.heap.size+1) (some c)).run P B=.ok v0 B' /\
     (aT (λk=>j k\/R k) A B'/\((Ending.returned v0=.returned (.bool true)/\∃ Y,V (i+1) (λk=>j k/\¬leads v k) B' Y)\/(Ending.returned v0=.returned (.bool false)/\∃ Y c,Vx i (λk=>j k/\¬leads v k) B' Y c))):=λc M hx=>by
    obtain⟨B',X,H,ae,U,S,ao⟩:=aJ (some c) B hh;exact⟨_,B',X,ao,.inr ⟨rfl,λk=>Y k/\¬leads v k,c,av c i _ _ B B' hx (λk b=>S k b.1) (U _ ⟨f,E⟩) (λk b=>.inl b),λk b=>⟨s k b.1,b.2⟩,λk b=>(y k b.1).imp (λh=>⟨h,b.2⟩) id,λk b=>ay none B B' (U Y f) S k b.1,⟨q,ai⟩,⟨f,E⟩,ae,H⟩⟩
   cases e with
   | normal=>
    rcases hp with⟨_,hi3⟩|⟨c,M,_⟩
    ·obtain⟨B',X,H,ae,U,S,ao⟩:=aJ none B hh
     exact⟨_,B',X,ao,.inl ⟨rfl,λk=>Y k/\¬leads v k,hI (i+1) _ _ B B' hi3 (λk b=>S k b.1) (U _ ⟨f,E⟩) (λk b=>.inl b),λk b=>⟨s k b.1,b.2⟩,λk b=>(y k b.1).imp (λh=>⟨h,b.2⟩) id,λk b=>ay none B B' (U Y f) S k b.1,⟨q,ai⟩,⟨f,E⟩,ae,H⟩⟩
    ·cases M
   | ret=>
    rcases hp with⟨h,_⟩|⟨c,M,hx⟩
    ·cases h
    ·cases M;exact go _ rfl hx
   | exit id=>
    rcases hp with⟨h,_⟩|⟨c,M,hx⟩
    ·cases h
    ·cases M;exact go _ rfl hx
   | goto t=>
    rcases hp with⟨h,_⟩|⟨c,M,hx⟩
    ·cases h
    ·cases M;exact go _ rfl hx
   | panic ch=>
    rcases hp with⟨h,_⟩|⟨c,M,_⟩
    ·cases h
    ·cases M
   | outgrown=>
    rcases hp with⟨h,_⟩|⟨c,M,_⟩
    ·cases h
    ·cases M
  ·rintro e W2 ⟨⟨v,rfl⟩,j,x,(⟨Y,hi,s,y,d,q,f,hd,L⟩|⟨i,aM,Y,c,hi,s,y,d,q,f,hd,L⟩)⟩
   ·have al:w.heap.size+1<W2.heap.size:=(d _ f).2
    have ad:(Instr.endLoop (w.heap.size+1)).run P W2=.ok none (W2.putObj (w.heap.size+1) (.loop (rec' .exhausted none))):=run_endLoop (P:=P) L (by simp[rec']);refine⟨none,_,ad,ap _ Y _ (Ja _) q (λk b=>(d k b).1) (hI N Y Y W2 _ hi d ((am.refl _ _).putObj _ _ (.inr f)) (λk b=>.inl b)) ((World.putObj_heap_other (by omega)).trans hd)⟩
   ·have al:w.heap.size+1<W2.heap.size:=(d _ f).2
    have ad:(Instr.endLoop (w.heap.size+1)).run P W2=.ok (some c) (W2.putObj (w.heap.size+1) (.loop (rec' .exhausted (some c)))):=run_endLoop (P:=P) L (by simp[rec']);exact⟨some c,_,ad,wpIn_wide.2 (aj _ c i Y _ (Ja _) q (λk b=>(d k b).1) aM (av c i Y Y W2 _ hi d ((am.refl _ _).putObj _ _ (.inr f)) (λk b=>.inl b)) ((World.putObj_heap_other (by omega)).trans hd))⟩
