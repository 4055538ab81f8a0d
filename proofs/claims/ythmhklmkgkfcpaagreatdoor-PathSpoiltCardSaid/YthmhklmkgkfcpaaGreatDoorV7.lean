import Derived.Test.YthmhklmkgkfcpaaGreatDoorV6
set_option linter.all false
set_option maxHeartbeats 8000000
set_option maxRecDepth 100000
namespace Go.Proofs.YthmhklmkgkfcpaaGreatDoor
open Go.Proofs.Tryz Go.RowKit
variable {K j q:Nat}
theorem oZ (x:Int)(w:World):Calls prog 34 #[.int .i64 x] w λe w'=>e=.returned (.tuple #[.int .i64 (er x),.int .i64 (chE x)])/\w=w':=by
 have a:=Lib.hid (pR x w);by_cases h:dY x=0
 ·rw[show er x=0 from if_pos h,show chE x=1 from if_pos h]
  rw[h] at a;clear h;go_enter func34,ntmps34;go_wp2_with fail;refine a.out.mono ?_;rintro _ _ ⟨rfl,rfl⟩;go_wp2_with fail;go_ret2;exact⟨rfl,rfl⟩
 ·have b:okN x:=by
   by_cases l:okN x
   ·exact l
   ·exact absurd (lD l) h
  obtain⟨j,q,rfl,d,c⟩:=(dW x).1 b;have p:=(dW ((nd j q:Nat):Int)).2 ⟨j,q,rfl,d,c⟩;rw[eL d c] at h a;cases j with
  | zero=>exact absurd rfl h
  | succ j=>
   obtain⟨n,m,r⟩:=fN (j:=j) d c;rw[n,m];have o:=Lib.hid (sQ j w (by omega));have g:(2:Nat) ^ j<=2 ^ 10:=JH (by omega) (by omega);have i:=jX j q;have f:=jY j q;have v:IntKind.i64.wrap (((j+1:Nat):Int) - 1)=(j:Int):=by rw[IA _ (by omega)];omega
   obtain⟨M,k⟩:∃ M,2 ^ j=M:=⟨_,rfl⟩;rw[k] at o g i f;have u:IntKind.i64.wrap (((nd (j+1) q:Nat):Int) - (M:Int))=((nd j (2*q):Nat):Int):=by rw[IA _ (by omega)];omega
   have t:(((j+1:Nat):Int)==0)=false:=ID.2 (by omega);have s:¬((j+1:Nat):Int)=0:=by omega
   generalize ((nd (j+1) q:Nat):Int)=X at *;generalize ((nd j (2*q):Nat):Int)=Y at *;generalize ((j+1:Nat):Int)=J at *;clear h b p n m r g i f k d c;go_enter func34,ntmps34;go_wp2_with fail;refine a.out.mono ?_;rintro _ _ ⟨rfl,rfl⟩;go_wp2_with fail;refine o.out.mono ?_;rintro _ _ ⟨rfl,rfl⟩;go_wp2_with fail;go_ret2;exact⟨rfl,rfl⟩
theorem pa (x:Int)(w:World):Calls prog 35 #[.int .i64 x] w λe w'=>e=.returned (.tuple #[.int .i64 (eF x),.int .i64 (chE x)])/\w=w':=by
 have a:=Lib.hid (pR x w);by_cases h:dY x=0
 ·rw[show eF x=0 from if_pos h,show chE x=1 from if_pos h]
  rw[h] at a;clear h;go_enter func35,ntmps35;go_wp2_with fail;refine a.out.mono ?_;rintro _ _ ⟨rfl,rfl⟩;go_wp2_with fail;go_ret2;exact⟨rfl,rfl⟩
 ·have b:okN x:=by
   by_cases l:okN x
   ·exact l
   ·exact absurd (lD l) h
  obtain⟨j,q,rfl,d,c⟩:=(dW x).1 b;have p:=(dW ((nd j q:Nat):Int)).2 ⟨j,q,rfl,d,c⟩;rw[eL d c] at h a;cases j with
  | zero=>exact absurd rfl h
  | succ j=>
   obtain⟨n,r,m⟩:=fN (j:=j) d c;rw[n,m];have o:=Lib.hid (sQ j w (by omega));have g:(2:Nat) ^ j<=2 ^ 10:=JH (by omega) (by omega);have i:=jX j q;have f:=jY j q;have v:IntKind.i64.wrap (((j+1:Nat):Int) - 1)=(j:Int):=by rw[IA _ (by omega)];omega
   obtain⟨M,k⟩:∃ M,2 ^ j=M:=⟨_,rfl⟩;rw[k] at o g i f;have u:IntKind.i64.wrap (((nd (j+1) q:Nat):Int)+(M:Int))=((nd j (2*q+1):Nat):Int):=by rw[IA _ (by omega)];omega
   have t:(((j+1:Nat):Int)==0)=false:=ID.2 (by omega);have s:¬((j+1:Nat):Int)=0:=by omega
   generalize ((nd (j+1) q:Nat):Int)=X at *;generalize ((nd j (2*q+1):Nat):Int)=Y at *;generalize ((j+1:Nat):Int)=J at *;clear h b p n r m g i f k d c;go_enter func35,ntmps35;go_wp2_with fail;refine a.out.mono ?_;rintro _ _ ⟨rfl,rfl⟩;go_wp2_with fail;refine o.out.mono ?_;rintro _ _ ⟨rfl,rfl⟩;go_wp2_with fail;go_ret2;exact⟨rfl,rfl⟩
theorem Co (p:Int):chE p=1\/chE p=0:=by unfold chE;split <;> simp
theorem Cp (p:Nat)(g:p<=2046)(k:j<=10):
  (chE (p:Int)=0/\(er (p:Int)=((nd j q:Nat):Int)\/eF (p:Int)=((nd j q:Nat):Int)))↔p=nd (j+1) (q / 2):=by
 obtain⟨i,r,e,f,b⟩:=gL 10 p (by omega)
 subst e
 cases i with
 | zero=>
  obtain⟨a,d,c⟩:=yP (q:=r) (by simpa using b)
  rw[a]
  constructor
  ·rintro⟨h,_⟩;omega
  ·intro h;exact absurd (iA h).1 (by omega)
 | succ i=>
  obtain⟨a,d,c⟩:=fN (j:=i) f b
  rw[a,d,c]
  constructor
  ·rintro⟨_,h|h⟩
   ·obtain⟨rfl,rfl⟩:=iA (Int.ofNat.inj h)
    congr 1;omega
   ·obtain⟨rfl,rfl⟩:=iA (Int.ofNat.inj h)
    congr 1;omega
  ·intro h
   obtain⟨n,m⟩:=iA h
   obtain rfl:i=j:=by omega
   refine⟨rfl,?_⟩
   by_cases l:q % 2=0
   ·left;congr 2;omega
   ·right;congr 2;omega
theorem Cq (X n:Int)(W T:Nat)(w:World)(O:IntKind.i64.wrap (2*n)=2*n)(r:2*n - 1=(W:Int))(H:W<=2047)(k:inB X n=true)(j:-9223372036854775808<=n/\n<=9223372036854775807)
  (C:∀ p:Nat,p<=2046->((chE (p:Int)=0/\(er (p:Int)=X\/eF (p:Int)=X))↔p=T)):
  Calls prog 80 #[.int .i64 X,.int .i64 n] w λe w'=>e=.returned (if T<W then .tuple #[.int .i64 (T:Int),.int .i64 0] else .tuple #[.int .i64 0,.int .i64 11])/\w=w':=by
 have z:=Lib.hid (lF X n w j);rw[k] at z;have A:=Lib.hid C;have B:=Lib.hid (fun(p:Nat)=>oZ (p:Int) w);have x:=Lib.hid (fun(p:Nat)=>pa (p:Int) w);have K:IntKind.i64.wrap (2*n - 1)=(W:Int):=by rw[r];exact IA _ (by omega)
 have M:IntKind.i64.wrap (W:Int)=(W:Int):=IA _ (by omega);obtain⟨V,s⟩:∃ V,(if T<W then (.tuple #[.int .i64 (T:Int),.int .i64 0]:Value) else .tuple #[.int .i64 0,.int .i64 11])=V:=⟨_,rfl⟩;rw[s];have q:=Lib.hid s;have v:=Lib.hid (Nat.lt_or_ge T W);clear C k j s;go_enter func80,ntmps80;go_wp2_with fail;refine z.out.mono ?_;rintro _ _ ⟨rfl,rfl⟩;clear z;go_wp2_with fail;go_loop [7] (λy=>∃ p:Nat,p<=W/\p<=T/\y=.int .i64 (p:Int)) (λy=>(W - (intOf y).toNat))
 case atStart=>exact⟨0,IO _,IO _,rfl⟩
 case round=>
  obtain⟨p,N,i,rfl⟩:=hrel;by_cases G:p<W
  ·have D:(p:Int)<(W:Int):=by omega
   have b:=A.out p (by omega);have f:=Lib.hid (B.out p);have d:=Lib.hid (x.out p);have J:IntKind.i64.wrap ((p:Int)+1)=(p:Int)+1:=IA _ (by omega);have F:=Co (p:Int);clear A B x r;generalize chE (p:Int)=E at *;generalize er (p:Int)=L at *;generalize eF (p:Int)=R at *;by_cases l:p=T
   ·obtain⟨o,u⟩:=b.2 l
    have c:Hid (V=.tuple #[.int .i64 (p:Int),.int .i64 0]):=by have:=q.out;rw[if_pos (by omega)] at this;rw[l];exact this.symm
    subst o;clear b F q v l i;by_cases m:L=X
    ·subst m
     clear u;go_wp2_with fail;refine f.out.mono ?_;rintro _ _ ⟨rfl,rfl⟩;go_wp2_with fail;refine d.out.mono ?_;rintro _ _ ⟨rfl,rfl⟩;go_wp2;go_ret2;exact⟨by rw[c.out] <;> rfl,rfl⟩
    ·have t:R=X:=u.resolve_left m
     subst t;have I:(L==R)=false:=ID.2 m;clear u;go_wp2_with fail;refine f.out.mono ?_;rintro _ _ ⟨rfl,rfl⟩;go_wp2_with fail;refine d.out.mono ?_;rintro _ _ ⟨rfl,rfl⟩;go_wp2;go_ret2;exact⟨by rw[c.out] <;> rfl,rfl⟩
   ·have a:¬(E=0/\(L=X\/R=X)):=λh=>l (b.1 h)
    have g:p+1<=T:=by omega
    clear b q v l i;rcases F with o|o
    ·subst o
     clear a;go_wp2_with fail;refine f.out.mono ?_;rintro _ _ ⟨rfl,rfl⟩;go_wp2_with fail;refine d.out.mono ?_;rintro _ _ ⟨rfl,rfl⟩;go_wp2;go_round
     case rel=>exact⟨p+1,by omega,g,by go_num⟩
     case measure=>simp[intOf];omega
    ·subst o
     have m:¬L=X:=λh=>a ⟨rfl,.inl h⟩
     have t:¬R=X:=λh=>a ⟨rfl,.inr h⟩
     have I:(L==X)=false:=ID.2 m;have P:(R==X)=false:=ID.2 t;clear a;go_wp2_with fail;refine f.out.mono ?_;rintro _ _ ⟨rfl,rfl⟩;go_wp2_with fail;refine d.out.mono ?_;rintro _ _ ⟨rfl,rfl⟩;go_wp2;go_round
     case rel=>exact⟨p+1,by omega,g,by go_num⟩
     case measure=>simp[intOf];omega
  ·obtain rfl:p=W:=by omega
   have c:Hid (V=.tuple #[.int .i64 0,.int .i64 11]):=by have:=q.out;rw[if_neg (by omega)] at this;exact this.symm
   clear A B x q v r i;go_wp2;go_ret2;exact⟨by rw[c.out] <;> rfl,rfl⟩
theorem pc (x n:Int)(w:World)(a:-9223372036854775808<=n/\n<=9223372036854775807):Calls prog 80 #[.int .i64 x,.int .i64 n] w λe w'=>e=.returned (.tuple #[.int .i64 (paV x n),.int .i64 (paE x n)])/\w=w':=by
 by_cases h:inB x n=true
 ·obtain⟨K,j,q,i,rfl,rfl,u,d⟩:=(gM x n).1 h
  obtain⟨_,g,m⟩:=dX i u d;have y:=bY i;have l:=bC K;have v:=bj K;obtain⟨W,o⟩:∃ W,2 ^ (K+1) - 1=W:=⟨_,rfl⟩;have:=Cq ((nd j q:Nat):Int) ((2 ^ K:Nat):Int) W (nd (j+1) (q / 2)) w (IA _ (by omega)) (by omega) (by omega) h a (λp t=>Cp p t g);refine this.mono ?_;rintro _ _ ⟨rfl,rfl⟩;by_cases s:j=K
  ·subst s
   have k:q=0:=by simp at d;exact d
   subst k;obtain⟨c,b,_⟩:=sJ i;rw[c,b,if_neg]
   ·exact⟨rfl,rfl⟩
   ·intro f
    rw[<-o] at f;have:=(yL f).1;omega
  ·obtain⟨c,b,_⟩:=nN (K:=K) (j:=j) (q:=q) i (by omega) d
   rw[c,b,if_pos]
   ·exact⟨rfl,rfl⟩
   ·rw[<-o]
    refine fq (by omega) ?_;have e:K - j=(K - (j+1))+1:=by omega
    rw[e,bj] at d;omega
 ·obtain⟨c,b,_⟩:=sI h
  have l:inB x n=false:=by rw[Ka];exact h
  have r:=Lib.hid (lF x n w a);rw[l] at r;rw[c,b];clear h l c b a;go_enter func80,ntmps80;go_wp2_with fail;refine r.out.mono ?_;rintro _ _ ⟨rfl,rfl⟩;go_wp2_with fail;go_ret2;exact⟨rfl,rfl⟩
theorem info83:(prog.info? 3).map (λi=>(i.zero,i.size,i.bytes))=some (some (.int .i64 0),1,8):=by kernel_rfl
theorem fV:bz prog 34 3:=bz.mk' underlying34 info83 (by decide) rfl
theorem Cr (x n:Int)(w:World)(c:-9223372036854775808<=n/\n<=9223372036854775807):Calls prog 130 #[.int .i64 x,.int .i64 n] w λe w'=>e=.returned (.tuple #[.int .i64 (siV x n),.int .i64 (paE x n)])/\w=w':=by
 have l:=Lib.hid (pc x n w c);by_cases h:inB x n=true
 ·obtain⟨K,j,q,y,rfl,rfl,s,i⟩:=(gM x n).1 h
  by_cases u:j=K
  ·subst u
   have a:q=0:=by simp at i;exact i
   subst a;obtain⟨b,f,d⟩:=sJ y;rw[b,f] at l;rw[b,d];clear h b f d c i s;go_enter func130,ntmps130;go_wp2_with fail;refine l.out.mono ?_;rintro _ _ ⟨rfl,rfl⟩;go_wp2_with fail;go_ret2;exact⟨rfl,rfl⟩
  ·obtain⟨b,f,d⟩:=nN (K:=K) (j:=j) (q:=q) y (by omega) i
   have k:j+1<=10:=by omega
   have g:q / 2<2 ^ (10 - (j+1)):=by
    have B:q<2 ^ (10 - j):=(dX y s i).2.2;have e:10 - j=(10 - (j+1))+1:=by omega
    rw[e,bj] at B;omega
   obtain⟨t,A,z⟩:=fN (j:=j) (q:=q / 2) k g;have r:=Lib.hid (oZ ((nd (j+1) (q / 2):Nat):Int) w);have p:=Lib.hid (pa ((nd (j+1) (q / 2):Nat):Int) w);rw[t,A] at r;rw[t,z] at p;rw[b,f] at l;rw[b,d];by_cases a:q % 2=0
   ·have o:2*(q / 2)=q:=by omega
    have m:2*(q / 2)+1=sq q:=by unfold sq;rw[if_pos a];omega
    rw[m] at p;rw[o] at r;generalize ((nd j q:Nat):Int)=X at *;generalize ((nd j (sq q):Nat):Int)=Y at *;generalize ((nd (j+1) (q / 2):Nat):Int)=P at *;clear h b f d c i s t A z u k g a o m;go_enter func130,ntmps130;go_wp2_with fail;refine l.out.mono ?_;rintro _ _ ⟨rfl,rfl⟩;go_wp2_with fail;refine r.out.mono ?_;rintro _ _ ⟨rfl,rfl⟩;go_wp2_with fail;refine p.out.mono ?_;rintro _ _ ⟨rfl,rfl⟩;go_wp2_with fail;go_ret2;exact⟨rfl,rfl⟩
   ·have o:2*(q / 2)+1=q:=by omega
    have m:2*(q / 2)=sq q:=by unfold sq;rw[if_neg a];omega
    have v:¬((nd j (sq q):Nat):Int)=((nd j q:Nat):Int):=λC=>by
     have:=(iA (Int.ofNat.inj C)).2;omega
    rw[o] at p;rw[m] at r;generalize ((nd j q:Nat):Int)=X at *;generalize ((nd j (sq q):Nat):Int)=Y at *;generalize ((nd (j+1) (q / 2):Nat):Int)=P at *;have D:(Y==X)=false:=ID.2 v;clear h b f d c i s t A z u k g a o m;go_enter func130,ntmps130;go_wp2_with fail;refine l.out.mono ?_;rintro _ _ ⟨rfl,rfl⟩;go_wp2_with fail;refine r.out.mono ?_;rintro _ _ ⟨rfl,rfl⟩;go_wp2_with fail;refine p.out.mono ?_;rintro _ _ ⟨rfl,rfl⟩;go_wp2_with fail;go_ret2;exact⟨rfl,rfl⟩
 ·obtain⟨b,f,d⟩:=sI h
  rw[b,f] at l;rw[b,d];clear h b f d c;go_enter func130,ntmps130;go_wp2_with fail;refine l.out.mono ?_;rintro _ _ ⟨rfl,rfl⟩;go_wp2_with fail;go_ret2;exact⟨rfl,rfl⟩
structure Way (K j q:Nat):Prop where
 node:∀ i,i<=K - j->0<=((nd (j+i) (q / 2 ^ i):Nat):Int)/\((nd (j+i) (q / 2 ^ i):Nat):Int)<=2046/\lev (nd (j+i) (q / 2 ^ i))=j+i
 root:∀ i,i<=K - j->(((nd (j+i) (q / 2 ^ i):Nat):Int)=((2 ^ K:Nat):Int) - 1↔i=K - j)
 up:∀ i,i<K - j->paE ((nd (j+i) (q / 2 ^ i):Nat):Int) ((2 ^ K:Nat):Int)=0/\paV ((nd (j+i) (q / 2 ^ i):Nat):Int) ((2 ^ K:Nat):Int)=((nd (j+(i+1)) (q / 2 ^ (i+1)):Nat):Int)/\siV ((nd (j+i) (q / 2 ^ i):Nat):Int) ((2 ^ K:Nat):Int)=((nd (j+i) (sq (q / 2 ^ i)):Nat):Int)
theorem way (d:K<=10)(m:j<=K)(f:q<2 ^ (K - j)):Way K j q:=by
 have b:∀ i,i<=K - j->q / 2 ^ i<2 ^ (K - (j+i)):=λi a=>jz f a
 refine⟨λi a=>?_,λi a=>?_,λi a=>?_⟩
 ·obtain⟨c,g,e⟩:=dX d (j:=j+i) (by omega) (b i a)
  exact⟨by omega,by omega,fJ _ _ (by omega)⟩
 ·have c:=sx (b i a) (show j+i<=K by omega)
  have g:=bC K;generalize nd (j+i) (q / 2 ^ i)=X at *;generalize 2 ^ K=N at *;constructor
  ·intro e
   have:=c.1 (by omega);omega
  ·intro e
   have:=c.2 (by omega);omega
 ·obtain⟨l,k,h⟩:=nN (K:=K) (j:=j+i) (q:=q / 2 ^ i) d (by omega) (b i (by omega))
  refine⟨l,?_,h⟩;rw[k,nL];rfl
theorem ra (K j q:Nat)(w:World)(C:K<=10)(P:j<=K)(z:q<2 ^ (K - j)):
  Calls prog 48 #[.int .i64 ((nd j q:Nat):Int),.int .i64 ((2 ^ K:Nat):Int)] w λe w'=>(∃ v,e=.returned (.tuple #[v,.int .i64 0])/\ON 3 w' w.heap.size v (aC K j q))/\Kp w w':=by
 have S:=fV;have l:=(gM ((nd j q:Nat):Int) ((2 ^ K:Nat):Int)).2 ⟨K,j,q,C,rfl,rfl,P,z⟩;have hb:=bY C;have B:=bC K;have c:-9223372036854775808<=((2 ^ K:Nat):Int)/\((2 ^ K:Nat):Int)<=9223372036854775807:=by omega
 have s:=Lib.hid (lF ((nd j q:Nat):Int) ((2 ^ K:Nat):Int) w c);rw[l] at s;obtain⟨y,w2,u⟩:=way C P z;have V:=Lib.hid (sA K j q);have X:=Lib.hid (lA K j q);have I:Hid (∀ i W,i<K - j->Calls prog 80 #[.int .i64 ((nd (j+i) (q / 2 ^ i):Nat):Int),.int .i64 ((2 ^ K:Nat):Int)] W λe w'=>e=.returned (.tuple #[.int .i64 ((nd (j+(i+1)) (q / 2 ^ (i+1)):Nat):Int),.int .i64 0])/\W=w'):=λi W b=>by
  have:=pc ((nd (j+i) (q / 2 ^ i):Nat):Int) ((2 ^ K:Nat):Int) W c;rwa [(u i b).1,(u i b).2.1] at this
 have i1:IntKind.i64.wrap (((2 ^ K:Nat):Int) - 1)=((2 ^ K:Nat):Int) - 1:=IA _ (by omega);obtain⟨f,r⟩:∃ f:Nat->Nat,f=λi=>nd (j+i) (q / 2 ^ i):=⟨_,rfl⟩
 have m:∀ i,nd (j+i) (q / 2 ^ i)=f i:=λi=>by rw[r]
 have n:nd j q=f 0:=by rw[r];simp
 have d:Hid (∀ i,i<K - j->(aC K j q).take (i+1)=(aC K j q).take i++[f (i+1)]):=λi b=>by
  rw[V.out i b];rw[r];simp only[];congr 3;omega
 have O:Hid ((aC K j q).take (K - j)=aC K j q):=by unfold Hid;rw[Jm (by rw[X.out];omega)]
 generalize aC K j q=F at *;simp only[m] at *;rw[n] at s ⊢;have E:=Lib.hid y;have D:=Lib.hid w2;have ad:K - j<=10:=by omega
 have t:Hid (∀ i,i<=K - j->lev (f i)=j+i):=λi b=>(y i b).2.2
 generalize ((2 ^ K:Nat):Int)=N at *;clear l hb B c y w2 u V r m n z;go_enter func48,ntmps48;go_wp2_with fail;refine s.out.mono ?_;rintro _ _ ⟨rfl,rfl⟩;clear s;go_wp2_with fail;go_loopw[0,7] (λx v wr=>∃ i:Nat,i<=K - j/\x=.int .i64 ((f i:Nat):Int)/\ON 3 wr w.heap.size v (F.take i)/\Kp w wr) (λx _ _=>(20 - lev (intOf x).toNat))
 case atStart=>exact⟨0,IO _,rfl,ON.nil _ _ _,Kp.refl _⟩
 case round=>
  obtain⟨i,b,rfl,g,p⟩:=hrel;have a:=D.out i b;obtain⟨U,T,Q⟩:=E.out i b;by_cases k:i<K - j
  ·have A:¬((f i:Nat):Int)=N - 1:=λh=>by have:=a.1 h;omega
   have ae:(((f i:Nat):Int)==N - 1)=false:=ID.2 A;have H:=Lib.hid (I.out i wr k);have G:=Lib.hid (d.out i k);have J:=Lib.hid (IC (t.out i b) (t.out (i+1) (by omega)));have aa:=p.size;have M:Hid ((F.take i).length<=1000000):=by unfold Hid;rw[Ja,X.out];omega
   generalize F.take i=L at *;clear E D I d O t a U T Q;go_wp2_with fail;refine H.out.mono ?_;rintro _ _ ⟨rfl,rfl⟩;go_wp2_with(at_builtin;refine pV (o:=⟨some 28,_,_,_,_,_⟩) S rfl _ _ rfl w.heap.size _ L rfl (g.kp ((Kp.refl wr).alloc _)) _ _ rfl (ON.lit1 wr 3 (f (i+1))) M.out (by simp;omega) ?_;intro v4 Y Z g4;have k4:Kp w Y:=Kp.grown (p.alloc _) g4 g.own_ge)
   go_roundw
   case rel=>exact⟨i+1,by omega,rfl,by rw[G.out];exact Z,k4⟩
   case measure=>have:=J.out;simp[intOf];omega
  ·obtain rfl:i=K - j:=by omega
   have ab:((f (K - j):Nat):Int)=N - 1:=a.2 rfl;rw[O.out] at g;have R:=Lib.hid g;obtain⟨av,nv,cv,rfl⟩:=g.rn.sl;have KK:=Lib.hid p;clear E D I d O t a U T Q g p;go_wp2_with fail;go_ret2;exact⟨⟨_,rfl,R.out⟩,KK.out⟩
theorem Ct (x n:Int)(w:World)(a:-9223372036854775808<=n/\n<=9223372036854775807):
  Calls prog 48 #[.int .i64 x,.int .i64 n] w λe w'=>(∃ v,e=.returned (.tuple #[v,.int .i64 (arE x n)])/\ON 3 w' w.heap.size v (lE x n))/\Kp w w':=by
 by_cases h:inB x n=true
 ·obtain⟨K,j,q,g,rfl,rfl,f,d⟩:=(gM x n).1 h
  obtain⟨c,b,k⟩:=sK g f d;rw[c,b];exact ra K j q w g f d
 ·obtain⟨c,b,k⟩:=yQ h
  have i:inB x n=false:=by rw[Ka];exact h
  have l:=Lib.hid (lF x n w a);rw[i] at l;rw[c,b];clear h i c b k a;go_enter func48,ntmps48;go_wp2_with fail;refine l.out.mono ?_;rintro _ _ ⟨rfl,rfl⟩;go_wp2_with fail;go_ret2;exact⟨⟨_,rfl,ON.nil _ _ _⟩,Kp.refl _⟩
theorem Cu (K j q:Nat)(w:World)(F:K<=10)(X:j<=K)(A:q<2 ^ (K - j)):
  Calls prog 91 #[.int .i64 ((nd j q:Nat):Int),.int .i64 ((2 ^ K:Nat):Int)] w λe w'=>(∃ v,e=.returned (.tuple #[v,.int .i64 0])/\RN w' v (cC K j q))/\Kp w w':=by
 have S:=fV;have n:=(gM ((nd j q:Nat):Int) ((2 ^ K:Nat):Int)).2 ⟨K,j,q,F,rfl,rfl,X,A⟩;have hb:=bY F;have E:=bC K;have c:-9223372036854775808<=((2 ^ K:Nat):Int)/\((2 ^ K:Nat):Int)<=9223372036854775807:=by omega
 have u:=Lib.hid (lF ((nd j q:Nat):Int) ((2 ^ K:Nat):Int) w c);rw[n] at u;obtain⟨z,w2,m⟩:=way F X A;have HT:=Lib.hid (sC K j q);have HL:=Lib.hid (nJ K j q);have Q:Hid (∀ i W,i<K - j->Calls prog 80 #[.int .i64 ((nd (j+i) (q / 2 ^ i):Nat):Int),.int .i64 ((2 ^ K:Nat):Int)] W λe w'=>e=.returned (.tuple #[.int .i64 ((nd (j+(i+1)) (q / 2 ^ (i+1)):Nat):Int),.int .i64 0])/\W=w'):=λi W b=>by
  have:=pc ((nd (j+i) (q / 2 ^ i):Nat):Int) ((2 ^ K:Nat):Int) W c;rwa [(m i b).1,(m i b).2.1] at this
 have O:Hid (∀ i W,i<K - j->Calls prog 130 #[.int .i64 ((nd (j+i) (q / 2 ^ i):Nat):Int),.int .i64 ((2 ^ K:Nat):Int)] W λe w'=>e=.returned (.tuple #[.int .i64 ((nd (j+i) (sq (q / 2 ^ i)):Nat):Int),.int .i64 0])/\W=w'):=λi W b=>by
  have:=Cr ((nd (j+i) (q / 2 ^ i):Nat):Int) ((2 ^ K:Nat):Int) W c;rwa [(m i b).1,(m i b).2.2] at this
 have i1:IntKind.i64.wrap (((2 ^ K:Nat):Int) - 1)=((2 ^ K:Nat):Int) - 1:=IA _ (by omega);obtain⟨f,D⟩:∃ f:Nat->Nat,f=λi=>nd (j+i) (q / 2 ^ i):=⟨_,rfl⟩
 have r:∀ i,nd (j+i) (q / 2 ^ i)=f i:=λi=>by rw[D]
 obtain⟨g,C⟩:∃ g:Nat->Nat,g=λi=>nd (j+i) (sq (q / 2 ^ i)):=⟨_,rfl⟩
 have p:∀ i,nd (j+i) (sq (q / 2 ^ i))=g i:=λi=>by rw[C]
 have s:nd j q=f 0:=by rw[D];simp
 have k:Hid (∀ i,i<K - j->(cC K j q).take (i+1)=(cC K j q).take i++[g i]):=λi b=>by
  rw[HT.out i b];rw[C]
 have V:Hid ((cC K j q).take (K - j)=cC K j q):=by unfold Hid;rw[Jm (by rw[HL.out];omega)]
 generalize cC K j q=I at *;simp only[r,p] at *;rw[s] at u ⊢;have H:=Lib.hid z;have G:=Lib.hid w2;have ad:K - j<=10:=by omega
 have y:Hid (∀ i,i<=K - j->lev (f i)=j+i):=λi b=>(z i b).2.2
 generalize ((2 ^ K:Nat):Int)=N at *;clear n hb E c z w2 m HT D r C p s A;go_enter func91,ntmps91;go_wp2_with fail;refine u.out.mono ?_;rintro _ _ ⟨rfl,rfl⟩;clear u;go_wp2_with fail;go_loopw[0,7] (λx v wr=>∃ i:Nat,i<=K - j/\x=.int .i64 ((f i:Nat):Int)/\ON 3 wr w.heap.size v (I.take i)/\Kp w wr) (λx _ _=>(20 - lev (intOf x).toNat))
 case atStart=>exact⟨0,IO _,rfl,ON.nil _ _ _,Kp.refl _⟩
 case round=>
  obtain⟨i,b,rfl,l,t⟩:=hrel;have a:=G.out i b;obtain⟨b1,Z,Y⟩:=H.out i b;by_cases d:i<K - j
  ·have B:¬((f i:Nat):Int)=N - 1:=λh=>by have:=a.1 h;omega
   have ae:(((f i:Nat):Int)==N - 1)=false:=ID.2 B;have P:=Lib.hid (Q.out i wr d);have M:=Lib.hid (O.out i wr d);have J:=Lib.hid (k.out i d);have T:=Lib.hid (IC (y.out i b) (y.out (i+1) (by omega)));have aa:=t.size;have U:Hid ((I.take i).length<=1000000):=by unfold Hid;rw[Ja,HL.out];omega
   generalize I.take i=L at *;clear H G Q O k V y a b1 Z Y;go_wp2_with fail;refine M.out.mono ?_;rintro _ _ ⟨rfl,rfl⟩;go_wp2_with fail;refine P.out.mono ?_;rintro _ _ ⟨rfl,rfl⟩;go_wp2_with(at_builtin;refine pV (o:=⟨some 36,_,_,_,_,_⟩) S rfl _ _ rfl w.heap.size _ L rfl (l.kp ((Kp.refl wr).alloc _)) _ _ rfl (ON.lit1 wr 3 (g i)) U.out (by simp;omega) ?_;intro v4 w4 o4 g4;have k4:Kp w w4:=Kp.grown (t.alloc _) g4 l.own_ge)
   go_roundw
   case rel=>exact⟨i+1,by omega,rfl,by rw[J.out];exact o4,k4⟩
   case measure=>have:=T.out;simp[intOf];omega
  ·obtain rfl:i=K - j:=by omega
   have ab:((f (K - j):Nat):Int)=N - 1:=a.2 rfl;rw[V.out] at l;have R:=Lib.hid l.rn;obtain⟨av,nv,cv,rfl⟩:=l.rn.sl;have KK:=Lib.hid t;clear H G Q O k V y a b1 Z Y l t;go_wp2_with fail;go_ret2;exact⟨⟨_,rfl,R.out⟩,KK.out⟩
theorem xg (n:Int)(w:World):Calls prog 127 #[.int .i64 n] w λe w'=>e=.returned (.tuple #[.int .i64 (fL n),.int .i64 (fK n)])/\w=w':=by
 have c:=Lib.hid (sS n w);by_cases a:bU n=true
 ·have d:=lC a
  have g:IntKind.i64.wrap (2*n)=2*n:=IA _ (by omega);have f:IntKind.i64.wrap (2*n - 1)=2*n - 1:=IA _ (by omega);rw[show fL n=2*n - 1 from if_pos a,show fK n=0 from if_pos a];rw[a] at c;clear a d;go_enter func127,ntmps127;go_wp2_with fail;refine c.out.mono ?_;rintro _ _ ⟨rfl,rfl⟩;go_wp2_with fail;go_ret2;exact⟨rfl,rfl⟩
 ·have b:bU n=false:=by rw[Ka];exact a
  rw[show fL n=0 from if_neg a,show fK n=1 from if_neg a];rw[b] at c;clear a b;go_enter func127,ntmps127;go_wp2_with fail;refine c.out.mono ?_;rintro _ _ ⟨rfl,rfl⟩;go_wp2_with fail;go_ret2;exact⟨rfl,rfl⟩
theorem ll {k:Nat}(h:k<=10):((2 ^ k:Nat):Int)<=1024/\1<=((2 ^ k:Nat):Int):=by have:=bY h;have:=bC k;omega
theorem xi (k:Nat)(h:k<=10):IntKind.i64.wrap (1*2 ^ k)=((2 ^ k:Nat):Int):=by
 have a:=ll h;have e:(1:Int)*2 ^ k=((2 ^ k:Nat):Int):=by push_cast;omega
 rw[e];exact IA _ (by omega)
theorem xj (k:Nat)(h:k<=10):IntKind.i64.wrap (2 ^ k)=((2 ^ k:Nat):Int):=by
 have:=xi k h;rwa [Int.one_mul] at this
theorem Fi (k:Nat)(h:k<=10):IntKind.i64.wrap (-1*2 ^ k) = -((2 ^ k:Nat):Int):=by
 have a:=ll h;have e:(-1:Int)*2 ^ k = -((2 ^ k:Nat):Int):=by push_cast;omega
 rw[e];exact IA _ (by omega)
theorem xk (j q:Nat)(s:Int)(w:World)(c:j+1<=10)(b:q<2 ^ (10 - (j+1)))(a:s=1\/s = -1)(d:Tab w):
  Calls prog 165 #[.int .i64 ((nd (j+1) q:Nat):Int),.int .i64 s] w λe w'=>e=.returned (.tuple #[.int .i64 (((nd (j+1) q:Nat):Int)+s*((2 ^ j:Nat):Int)),.int .i64 0])/\w=w':=by
 have f:=Lib.hid (ki ((nd (j+1) q:Nat):Int) w d);rw[eL c b] at f;have g:=(dW ((nd (j+1) q:Nat):Int)).2 ⟨j+1,q,rfl,c,b⟩;obtain⟨m,l⟩:=ll (k:=j) (by omega);have t:IntKind.i64.wrap (((j+1:Nat):Int) - 1)=(j:Int):=by rw[IA _ (by omega)];omega
 have i:¬((j+1:Nat):Int)=0:=by omega
 have h:(((j+1:Nat):Int)==0)=false:=ID.2 i;have r:IntKind.i64.wrap (s*2 ^ j)=s*((2 ^ j:Nat):Int):=by
  rcases a with rfl|rfl
  ·rw[xi j (by omega)];omega
  ·rw[Fi j (by omega)];omega
 have p:IntKind.i64.wrap (((nd (j+1) q:Nat):Int)+s*((2 ^ j:Nat):Int))=((nd (j+1) q:Nat):Int)+s*((2 ^ j:Nat):Int):=IA _ (by rcases a with rfl|rfl <;> omega);have o:((j:Int)).toNat=j:=IM j;have n:(j:Int)<=64:=by omega
 generalize s*((2 ^ j:Nat):Int)=M at *;generalize ((j+1:Nat):Int)=u at *;generalize ((nd (j+1) q:Nat):Int)=X at *;clear g b c d m l a;go_enter func165,ntmps165;go_wp2_with fail;refine f.out.mono ?_;rintro _ _ ⟨rfl,rfl⟩;go_wp2_with fail;go_ret2;exact⟨rfl,rfl⟩
theorem xl (x s:Int)(w:World)(h:dY x=0)(a:Tab w):
  Calls prog 165 #[.int .i64 x,.int .i64 s] w λe w'=>e=.returned (.tuple #[.int .i64 0,.int .i64 1])/\w=w':=by
 have b:=Lib.hid (ki x w a);rw[h] at b;clear h a;go_enter func165,ntmps165;go_wp2_with fail;refine b.out.mono ?_;rintro _ _ ⟨rfl,rfl⟩;go_wp2_with fail;go_ret2;exact⟨rfl,rfl⟩
theorem xm (x:Int):dY x=0\/∃ j q,x=((nd (j+1) q:Nat):Int)/\j+1<=10/\q<2 ^ (10 - (j+1)):=by
 by_cases h:okN x
 ·obtain⟨j,q,rfl,b,a⟩:=(dW x).1 h
  cases j with
  | zero=>exact .inl (eL b a)
  | succ j=>exact .inr ⟨j,q,rfl,b,a⟩
 ·exact .inl (lD h)
theorem rP (x:Int)(w:World)(a:Tab w):Calls prog 128 #[.int .i64 x] w λe w'=>e=.returned (.tuple #[.int .i64 (er x),.int .i64 (chE x)])/\w=w':=by
 have H:Hid (Calls prog 165 #[.int .i64 x,.int .i64 (-1)] w λe w'=>e=.returned (.tuple #[.int .i64 (er x),.int .i64 (chE x)])/\w=w'):=by
  rcases xm x with h|⟨j,q,rfl,f,d⟩
  ·have c:er x=0:=if_pos h
   have b:chE x=1:=if_pos h;rw[c,b];exact xl x (-1) w h a
  ·obtain⟨c,b,_⟩:=fN f d
   obtain⟨i,g⟩:=jX j q;have:=xk j q (-1) w f d (.inr rfl) a;rw[c,b];rwa [show((nd (j+1) q:Nat):Int)+-1*((2 ^ j:Nat):Int)=((nd j (2*q):Nat):Int) by omega] at this
 clear a;go_enter func128,ntmps128;go_wp2_with fail;refine H.out.mono ?_;rintro _ _ ⟨rfl,rfl⟩;go_wp2_with fail;go_ret2;exact⟨rfl,rfl⟩
theorem xn (x:Int)(w:World)(a:Tab w):Calls prog 129 #[.int .i64 x] w λe w'=>e=.returned (.tuple #[.int .i64 (eF x),.int .i64 (chE x)])/\w=w':=by
 have H:Hid (Calls prog 165 #[.int .i64 x,.int .i64 1] w λe w'=>e=.returned (.tuple #[.int .i64 (eF x),.int .i64 (chE x)])/\w=w'):=by
  rcases xm x with h|⟨j,q,rfl,f,d⟩
  ·have c:eF x=0:=if_pos h
   have b:chE x=1:=if_pos h;rw[c,b];exact xl x 1 w h a
  ·obtain⟨c,_,b⟩:=fN f d
   have g:=jY j q;have:=xk j q 1 w f d (.inl rfl) a;rw[c,b];rwa [show((nd (j+1) q:Nat):Int)+1*((2 ^ j:Nat):Int)=((nd j (2*q+1):Nat):Int) by omega] at this
 clear a;go_enter func129,ntmps129;go_wp2_with fail;refine H.out.mono ?_;rintro _ _ ⟨rfl,rfl⟩;go_wp2_with fail;go_ret2;exact⟨rfl,rfl⟩
theorem Fj (j q:Nat)(w:World)(i:j<10)(a:q<2 ^ (10 - j))(b:Tab w):
  Calls prog 164 #[.int .i64 ((nd j q:Nat):Int)] w λe w'=>e=.returned (.int .i64 ((nd (j+1) (q / 2):Nat):Int))/\w=w':=by
 have f:=Lib.hid (ki ((nd j q:Nat):Int) w b);rw[eL (by omega) a] at f;have g:=(dW ((nd j q:Nat):Int)).2 ⟨j,q,rfl,by omega,a⟩;obtain⟨m,l⟩:=ll (k:=j) (by omega);have u:=xj j (by omega);have t:IntKind.i64.wrap (2*((2 ^ j:Nat):Int))=((2 ^ (j+1):Nat):Int):=by rw[bj,IA _ (by omega)];omega
 have d:=sM (nd j q) (2 ^ (j+1)) (by omega) (by rw[bj];omega);rw[yU] at d;have s:((j:Int)).toNat=j:=IM j;have r:(j:Int)<=64:=by omega
 by_cases h:q % 2=0
 ·have c:=sO j q h
  have o:IntKind.i64.wrap (((nd j q:Nat):Int)+((2 ^ j:Nat):Int))=((nd (j+1) (q / 2):Nat):Int):=by rw[IA _ (by omega)];omega
  rw[if_pos h] at d;generalize ((nd (j+1) (q / 2):Nat):Int)=Y at *;generalize ((2 ^ (j+1):Nat):Int)=B at *;generalize ((nd j q:Nat):Int)=X at *;generalize ((2 ^ j:Nat):Int)=A at *;clear g a i b m l h c;go_enter func164,ntmps164;go_wp2_with fail;refine f.out.mono ?_;rintro _ _ ⟨rfl,rfl⟩;go_wp2_with fail;go_ret;exact⟨rfl,rfl⟩
 ·obtain⟨c,n⟩:=sP j q h
  have o:IntKind.i64.wrap (((nd j q:Nat):Int) - ((2 ^ j:Nat):Int))=((nd (j+1) (q / 2):Nat):Int):=by rw[IA _ (by omega)];omega
  rw[if_neg h] at d;have p:(((2 ^ (j+1):Nat):Int)==0)=false:=ID.2 (by have:=bC (j+1);omega);generalize ((nd (j+1) (q / 2):Nat):Int)=Y at *;generalize ((2 ^ (j+1):Nat):Int)=B at *;generalize ((nd j q:Nat):Int)=X at *;generalize ((2 ^ j:Nat):Int)=A at *;clear g a i b m l h c n;go_enter func164,ntmps164;go_wp2_with fail;refine f.out.mono ?_;rintro _ _ ⟨rfl,rfl⟩;go_wp2_with fail;go_ret;exact⟨rfl,rfl⟩
theorem Fk (n:Int)(w:World)(a:-9223372036854775807<=n/\n<=9223372036854775807):Calls prog 163 #[.int .i64 n] w λe w'=>e=.returned (.int .i64 (n - 1))/\w=w':=by
 have b:IntKind.i64.wrap (n - 1)=n - 1:=IA _ (by omega);go_enter func163,ntmps163;go_wp2_with fail;go_ret;exact⟨rfl,rfl⟩
theorem xt (b:K<=10)(a:q<2 ^ (K - j)):q<2 ^ (10 - j):=II a (JH (by omega) (by omega))
theorem Fl (j q:Nat)(w:World)(d:j<10)(a:q<2 ^ (10 - j)):
  Calls prog 126 #[.int .i64 ((nd j q:Nat):Int),.int .i64 ((nd (j+1) (q / 2):Nat):Int)] w λe w'=>e=.returned (.int .i64 ((nd j (sq q):Nat):Int))/\w=w':=by
 have f:=yW j q;have c:=(dW ((nd j q:Nat):Int)).2 ⟨j,q,rfl,by omega,a⟩;have b:=(dW ((nd (j+1) (q / 2):Nat):Int)).2 ⟨j+1,q / 2,rfl,by omega,by
  have:2 ^ (10 - j)=2*2 ^ (10 - (j+1)):=by rw[show 10 - j=(10 - (j+1))+1 by omega,bj]
  omega⟩
 have h:IntKind.i64.wrap (2*((nd (j+1) (q / 2):Nat):Int))=2*((nd (j+1) (q / 2):Nat):Int):=IA _ (by omega);have g:IntKind.i64.wrap (2*((nd (j+1) (q / 2):Nat):Int) - ((nd j q:Nat):Int))=((nd j (sq q):Nat):Int):=by rw[IA _ (by omega)];omega
 generalize ((nd (j+1) (q / 2):Nat):Int)=Y at *;generalize ((nd j q:Nat):Int)=X at *;generalize ((nd j (sq q):Nat):Int)=Z at *;clear f c b a d;go_enter func126,ntmps126;go_wp2_with fail;go_ret;exact⟨rfl,rfl⟩
theorem Fm (x:Int)(w:World)(g:Tab w):Calls prog 119 #[.int .i64 x] w λe w'=>e=.returned (.tuple #[.int .i64 (loV x),.int .i64 (hiV x)])/\w=w':=by
 have c:=Lib.hid (nQ x 1024 w);rw[sT] at c;by_cases h:okN x
 ·obtain⟨j,q,rfl,d,f⟩:=(dW x).1 h
  rw[IY h] at c;obtain⟨b,a⟩:=ke d f;rw[b,a];have i:=Lib.hid (ki ((nd j q:Nat):Int) w g);rw[eL d f] at i;have k:0<=((nd j q:Nat):Int)/\((nd j q:Nat):Int)<=2046:=h;obtain⟨r,p⟩:=ll d;obtain⟨o,n⟩:=yM j q;have m:2 ^ j - 1<=nd j q:=by unfold nd;omega
  have D:=xj j d;have C:IntKind.i64.wrap (((2 ^ j:Nat):Int) - 1)=((2 ^ j:Nat):Int) - 1:=IA _ (by omega);have B:IntKind.i64.wrap (((nd j q:Nat):Int) - (((2 ^ j:Nat):Int) - 1))=((nd j q - (2 ^ j - 1):Nat):Int):=by rw[IA _ (by omega)];omega
  have z:IntKind.i64.wrap (((nd j q:Nat):Int)+(((2 ^ j:Nat):Int) - 1))=((nd j q+(2 ^ j - 1):Nat):Int):=by rw[IA _ (by omega)];omega
  have u:((nd j q - (2 ^ j - 1):Nat):Int).tdiv 2=((2 ^ j*q:Nat):Int):=by rw[Jp (by omega)];omega
  have t:((nd j q+(2 ^ j - 1):Nat):Int).tdiv 2=((2 ^ j*q+2 ^ j - 1:Nat):Int):=by rw[Jp (by omega)];omega
  have s:IntKind.i64.wrap ((2 ^ j*q:Nat):Int)=((2 ^ j*q:Nat):Int):=IA _ (by omega);have l:IntKind.i64.wrap ((2 ^ j*q+2 ^ j - 1:Nat):Int)=((2 ^ j*q+2 ^ j - 1:Nat):Int):=IA _ (by omega);have y:((j:Int)).toNat=j:=IM j;have v:(j:Int)<=64:=by omega
  generalize ((nd j q - (2 ^ j - 1):Nat):Int)=U at *;generalize ((nd j q+(2 ^ j - 1):Nat):Int)=V at *;generalize ((2 ^ j*q:Nat):Int)=E at *;generalize ((2 ^ j*q+2 ^ j - 1:Nat):Int)=F at *;generalize ((nd j q:Nat):Int)=X at *;generalize ((2 ^ j:Nat):Int)=A at *;clear h k r p o n m b a f g;go_enter func119,ntmps119;go_wp2_with fail;refine c.out.mono ?_;rintro _ _ ⟨rfl,rfl⟩;go_wp2_with fail;refine i.out.mono ?_;rintro _ _ ⟨rfl,rfl⟩;go_wp2_with fail;go_ret2;exact⟨rfl,rfl⟩
 ·rw[IS h] at c
  obtain⟨b,a⟩:=sL h;rw[b,a];clear h b a g;go_enter func119,ntmps119;go_wp2_with fail;refine c.out.mono ?_;rintro _ _ ⟨rfl,rfl⟩;go_wp2_with fail;go_ret2;exact⟨rfl,rfl⟩
