import Derived.Test.YthmhklmkgkfcpaaGreatDoorX16
import Derived.Test.YthmhklmkgkfcpaaGreatDoorX17
set_option linter.all false
set_option maxHeartbeats 8000000
set_option maxRecDepth 100000
namespace Go.Proofs.YthmhklmkgkfcpaaGreatDoor
open Go.Proofs.Tryz Go.RowKit
variable {B K i k m:Nat}{d j:Value}{l o:List Sd}{n:TypeId}{s:Sd}{t:List Nod}{w w':World}{x:Int}
theorem ox (aa:Value)(t:List Nod)(i:Int)(w:World)(f:NL w aa t)(m:t.length<=100000):
  Calls prog 25 #[aa,.int .i64 i] w λe w'=>e=.returned (.bool (decide (bc t i)))/\w=w':=by
 have n:=JE (gU aa t w f m);have l:=iY (t:=t) m;obtain⟨a,c,rfl,p1,A⟩:=f.shape;by_cases s:0<=i
 ·obtain⟨k,rfl⟩:=Kc s
  by_cases y:k<lvs t
  ·have d:=lQ y
   obtain⟨b,u,rfl,x,r⟩:=f.at (2*k) d;obtain⟨p,q,h,o⟩:=r (2*k) d;have D:=o.kind;have C:IntKind.i64.wrap (2*(k:Int))=((2*k:Nat):Int):=by rw[JI _ (by omega)];omega
   have B:((2*k:Nat):Int)<(t.length:Int):=by omega
   have v:(k:Int)<((lvs t:Nat):Int):=by omega
   have e:decide (bc t (k:Int))=decide ((ats t (2*k)).kind=1):=decide_eq_decide.2 ⟨λh=>by have:=h.2.2;rwa [JX] at this,λh=>⟨by omega,by omega,by rw[JX];exact h⟩⟩;rw[e];generalize (ats t (2*k)).kind=X at *;generalize lvs t=L at *;generalize t.length=N at *;generalize 2*k=E at *;clear r o f e x d;go_enter func25,ntmps25;go_wp2_with fail;refine n.out.mono ?_;rintro _ _ ⟨rfl,rfl⟩;by_cases j:X=1
   ·subst j
    go_wp2_with fail;go_ret;exact⟨rfl,rfl⟩
   ·have g:(X==1)=false:=JL.2 j
    have z:=JE (Kb j);go_wp2_with fail;go_ret;exact⟨by rw[z.out] <;> first|rfl|simp[g],rfl⟩
  ·have e:decide (bc t (k:Int))=false:=Kb λh=>by have:=h.2.1;omega
   have v:¬(k:Int)<((lvs t:Nat):Int):=by omega
   rw[e];generalize lvs t=L at *;generalize t.length=N at *;clear f e;go_enter func25,ntmps25;go_wp2_with fail;refine n.out.mono ?_;rintro _ _ ⟨rfl,rfl⟩;go_wp2_with fail;go_ret;exact⟨rfl,rfl⟩
 ·have e:decide (bc t i)=false:=Kb λh=>s h.1
  rw[e];generalize t.length=N at *;clear f e n l m;go_enter func25,ntmps25;go_wp2_with fail;go_ret;exact⟨rfl,rfl⟩
theorem Gq {own:List Sd}(b:k<own.length)(h:(aG own k).node=x)(a:∀ j,j<k->(aG own j).node≠x):aZ own x=(aG own k).seed:=by
 induction own generalizing k with
 | nil=>exact absurd b (LT _)
 | cons s l ih=>
  unfold aZ
  cases k with
  | zero=>rw[if_pos (show s.node=x from h)];rfl
  | succ k=>
   rw[if_neg (show ¬s.node=x from a 0 (Nat.succ_pos _))]
   exact ih (by simpa using b) h λj c=>a (j+1) (Nat.succ_lt_succ c)
theorem Gr {own:List Sd}(a:∀ j,j<own.length->(aG own j).node≠x):aZ own x=[]:=by
 induction own with
 | nil=>rfl
 | cons s l ih=>
  unfold aZ
  rw[if_neg (show ¬s.node=x from a 0 (by simp))]
  exact ih λj b=>a (j+1) (by simpa using b)
theorem SL.shape {v:Value}(h:SL w v l):∃ a c,v=.slice a l.length c/\l.length<=c/\c<=maxLen:=Ob h
theorem yJ (aa:Value)(own:List Sd)(x:Int)(w:World)(p:SL w aa own)(H:own.length<=100000):
  Calls prog 51 #[aa,.int .i64 x] w λe w'=>(∃ r,e=.returned r/\Rd w r (aZ own x))/\w=w':=by
 obtain⟨a,c,rfl,p1,L⟩:=p.shape;have D:=JE p;have o:Hid (∀ k,k<own.length->(aG own k).node=x->(∀ j,j<k->(aG own j).node≠x)->aZ own x=(aG own k).seed):=λk B h G=>Gq B h G
 have y:Hid ((∀ j,j<own.length->(aG own j).node≠x)->aZ own x=[]):=λh=>Gr h
 generalize aZ own x=V at *;obtain⟨N,u⟩:∃ N,own.length=N:=⟨_,rfl⟩;rw[u] at p1 D o y H ⊢;have n:=JE u;clear p u;go_enter func51,ntmps51;go_wp2_with fail;go_loop [5] (λi=>∃ k:Nat,k<=N/\i=.int .i64 (k:Int)/\(∀ j,j<k->(aG own j).node≠x)) (λi=>(N - (intOf i).toNat))
 case atStart=>exact⟨0,JW _,rfl,λt h=>by omega⟩
 case round=>
  obtain⟨k,B,rfl,d⟩:=hrel;by_cases l:k<N
  ·obtain⟨b,F,R,q,e,J,T,S,A⟩:=SL.node (i:=k) D.out (by rw[n.out];exact l)
   rw[n.out] at e;simp only[JR] at e;obtain⟨rfl,_,rfl⟩:=e;have P:IntKind.i64.wrap ((k:Int)+1)=(k:Int)+1:=JI _ (by omega);have O:(k:Int)<(N:Int):=by omega
   have g:=JE (o.out k l);have f:=JE d;have E:=JE A;clear o d A J;obtain⟨U,M,Q,rfl⟩:=aA E.out;by_cases m:(aG own k).node=x
   ·have C:=g.out m f.out
    have z:=JE C;have s:((aG own k).node==x)=true:=by rw[m];exact beq_self_eq_true _
    generalize (aG own k).node=X at *;clear g f C;subst m;go_wp2_with fail;go_ret;exact⟨⟨_,rfl,by rw[z.out];exact E.out⟩,rfl⟩
   ·have K:Hid (∀ j,j<k+1->(aG own j).node≠x):=λj I=>by
     rcases Kh (Kr.1 I) with v|v
     ·exact f.out j v
     ·rw[v];exact m
    have s:((aG own k).node==x)=false:=JL.2 m;generalize (aG own k).node=X at *;clear g f;go_wp2_with fail;go_round
    case rel=>exact⟨k+1,by omega,by go_num,K.out⟩
    case measure=>simp[intOf];omega
  ·obtain rfl:k=N:=by omega
   have z:=JE (y.out d);clear y d o;go_wp2_with fail;go_ret;exact⟨⟨_,rfl,by rw[z.out];exact bU _⟩,rfl⟩
theorem yK (h:m<K):(cZ K 0 i).getD m 0=nd m (sq (i / 2 ^ m)):=by
 unfold cZ;rw[JF,KX,Mr (by omega)];simp
theorem tb (h:m<K):(aL K 0 i).getD m 0=nd (m+1) (i / 2 ^ (m+1)):=by
 unfold aL;rw[JF,KX,Mr (by omega)];simp[MW]
theorem mi (K i:Nat):(aL K 0 i).length=K:=by unfold aL;simp
theorem yL (K i:Nat):(cZ K 0 i).length=K:=by unfold cZ;simp
theorem Gs (h:(cK t i m).length=0):aC t i (m+1)=aC t i m/\aT t i (m+1)=aT t i m:=by
 unfold aC aT;rw[show ixS t i (m+1)=ixS t i m by rw[ixS];rw[if_pos h]];exact⟨rfl,rfl⟩
theorem Gt (h:(cK t i m).length≠0):aC t i (m+1)=aC t i m++[nd (m+1) (i / 2 ^ (m+1))]/\aT t i (m+1)=aT t i m++[cK t i m]:=by
 unfold aC aT;rw[show ixS t i (m+1)=ixS t i m++[m] by rw[ixS];rw[if_neg h],LL,LL];exact⟨rfl,rfl⟩
theorem yM (t:List Nod)(i m:Nat):(aC t i m).length<=m/\(aT t i m).length<=m:=by
 have:=gy t i m;have:=kC t i m;omega
structure Two (e1 e2:TypeId)(w:World)(B:Nat)(v1 v2:Value)(l1:List Nat)(l2:List (List Int)):Prop where
 mk ::
 a:GZ shN e1 noB w B v1 l1
 b:GZ gV e2 (λg=>some g=v1.ownBlock) w B v2 l2
 ne:∀ g,v1.ownBlock=some g->v2.ownBlock≠some g
theorem Two.kp {i g:TypeId}{c:Value}{f:List Nat}{e:List (List Int)}(h:Two i g w B d c f e)(k:Kp w w'):Two i g w' B d c f e:=⟨h.a.kp k,h.b.kp k,h.ne⟩
theorem Two.nil (b a:TypeId)(w:World)(B:Nat):Two b a w B (.slice none 0 0) (.slice none 0 0) [] []:=⟨GZ.nil _ _ _,GZ.nil _ _ _,λg h=>by cases h⟩
theorem Two.one {t:TypeId}{i f:Value}{u m:List Nat}{l:List (List Int)}(h:Two t n w B i j u l)(y:GZ shN t noB w' B f m)(a:w.grownBy w' i.ownBlock)(d:f.ownBlock=i.ownBlock\/f.ownBlock=some w.heap.size):Two t n w' B f j m l:=by
 have x:GZ gV n (λg=>some g=i.ownBlock) w' B j l:=h.b.step (Y:=λg=>some g=i.ownBlock) ⟨a.os,a.tape,a.output,a.size,λk p o=>a.block k p o⟩ (λg a=>.inl a) (λg a q=>h.ne g q.symm a);have s:GZ gV n (λg=>some g=i.ownBlock\/w.heap.size<=g) w B j l:=h.b.solidly λg a=>a.elim (λh=>.inr (.inl h)) λh=>.inr (.inr λv=>by have:=v.lt;omega)
 have r:GZ gV n (λg=>some g=i.ownBlock\/w.heap.size<=g) w' B j l:=s.step (Y:=λg=>some g=i.ownBlock) ⟨a.os,a.tape,a.output,a.size,λk p o=>a.block k p o⟩ (λg a=>.inl (.inl a)) (λg a q=>h.ne g q.symm a);refine⟨y,?_,λg c e=>?_⟩
 ·rcases d with d|d
  ·rw[d];exact x
  ·refine r.solidly λg c=>.inr (.inl (.inr ?_))
   rw[d] at c;cases c;exact JO _
 ·rcases d with d|d
  ·exact h.ne g (d▸c) e
  ·rw[d] at c
   cases c;have:=(h.b.lt _ e).2;omega
theorem Two.two {o:TypeId}{l b:Value}{m:List Nat}{p f:List (List Int)}(h:Two o n w B l d m p)(t:GZ gV n (λg=>some g=l.ownBlock) w' B b f)(c:w.grownBy w' d.ownBlock)(i:b.ownBlock=d.ownBlock\/b.ownBlock=some w.heap.size):Two o n w' B l b m f:=by
 refine⟨?_,t,λg j e=>?_⟩
 ·have u:GZ shN o (λg=>some g=d.ownBlock) w B l m:=h.a.anyN
  exact(u.step (Y:=λg=>some g=d.ownBlock) ⟨c.os,c.tape,c.output,c.size,λk r q=>c.block k r q⟩ (λg c=>.inl c) (λg c s=>h.ne g c s.symm)).anyN
 ·rcases i with i|i
  ·exact h.ne g j (i▸e)
  ·rw[i] at e
   cases e;have:=(h.a.lt _ j).2;omega
theorem Gu {e A z:TypeId}{wr i s:World}{t l r:Value}{v:List Nat}{u:List (List Int)}{q:List Int}{o:Obj}(m:Two A z wr B j t v u)(p:OI e i wr.heap.size r q)(f:(i.alloc o).grownBy s j.ownBlock)
  (h:l.ownBlock=j.ownBlock\/l.ownBlock=some (i.alloc o).heap.size):RI s r q/\br (λg=>some g=t.ownBlock\/some g=l.ownBlock) r:=by
 have y:RI (i.alloc o) r q:=p.ri.kp ((NQ _).alloc _);refine⟨y.stepF (Y:=λg=>some g=j.ownBlock) ⟨f.os,f.tape,f.output,f.size,λk d w=>f.block k d w⟩ (dZ (C:=wr.heap.size) (λg f=>(p.lt g f).1) λg f=>(m.a.lt g f.symm).2),λx n c e E d=>?_⟩;have D:=p.lt x.block (by rw[e];rfl);rcases d with d|d
 ·have:=(m.b.lt _ d.symm).2
  omega
 ·rcases h with h|h
  ·have:=(m.a.lt _ (h▸d.symm)).2
   omega
  ·rw[h] at d
   simp only[Ky,JY] at d;omega
theorem yN (aa:Value)(t:List Nod)(K i:Nat)(w:World)(Q:NL w aa t)(n:aD t K)(hi:i<2 ^ K):
  Calls prog 41 #[aa,.int .i64 (i:Int)] w λe w'=>(∃ a b,e=.returned (.tuple #[a,b])/\RN w' a (aC t i K)/\aJ gV w' b (aT t i K))/\Kp w w':=by
 obtain⟨z1,z2,z3⟩:=n.small;have hp:=bP n.le;have al:=n.le;have HL:=JE (gU aa t w Q (by omega));rw[n.lv] at HL;have HP:=JE (λW=>pH K 0 i W n.le (JW _) (by simpa using hi));have HC:=JE (λW=>Dk K 0 i W n.le (JW _) (by simpa using hi));have j:=JE (fun(m:Nat) W (hW:Kp w W)=>Eh aa t K ((nd m (sq (i / 2 ^ m)):Nat):Int) W (Q.kp hW) n);rw[eF] at HP HC;have A:=JE (λm (h:m<K)=>yK (i:=i) h);have v:=JE (λm (h:m<K)=>tb (i:=i) h);have ai:=JE (mi K i);have ak:=JE (yL K i);have s:=JE (λm=>Gs (t:=t) (i:=i) (m:=m));have q:=JE (λm=>Gt (t:=t) (i:=i) (m:=m));have u:=JE (λm=>yM t i m);have HW:Hid (∀ m,ii t ((nd m (sq (i / 2 ^ m)):Nat):Int)=cK t i m):=λm=>rfl
 have i2:IntKind.i64.wrap (2*(i:Int))=((2*i:Nat):Int):=by rw[JI _ (by omega)];omega
 generalize aL K 0 i=PT at *;generalize cZ K 0 i=CT at *;have H:Hid (aC t i 0=[]/\aT t i 0=[]):=⟨rfl,rfl⟩;generalize ae:aC t i=ST at *;generalize ab:aT t i=U at *;generalize ad:cK t i=WF at *;generalize af:2 ^ K=L at *;obtain⟨a,c,rfl,p1,s1⟩:=Q.shape;obtain⟨N,hN⟩:∃ N,t.length=N:=⟨_,rfl⟩;rw[hN] at HL j p1 z1 ⊢;generalize ag:2*i=I2 at *;clear Q n hi af ae ab ad z2 z3 hN ag;go_enter func41,ntmps41;go_wp2_with fail;refine HL.out.mono ?_;rintro _ _ ⟨rfl,rfl⟩;go_wp2_with fail;refine(HP.out w).mono ?_;rintro _ w1 ⟨⟨pv,rfl,o1⟩,k1⟩;have O:=o1.rn;obtain⟨ap,cp,e1,p2,s2⟩:=O.shape;subst e1;rw[ai.out] at O p2 ⊢;have R1:=JE O;have K1:=JE k1;clear o1 O k1 HP;go_wp2_with fail;refine(HC.out w1).mono ?_;rintro _ w2 ⟨⟨cv,rfl,M⟩,k2⟩;obtain⟨ac,cc,e2,p3,s3⟩:=M.shape;subst e2;rw[ak.out] at M p3 ⊢;have R2:=JE (JN (R1.out.kp k2) (JN M (K1.out.trans k2)));clear M k2 HC R1 K1 HL;go_wp2_with fail;go_loopw[11,12,13] (λx y z wr=>∃ m:Nat,m<=K/\z=.int .i64 (m:Int)/\Two 3 34 wr w2.heap.size x y (ST m) (U m)/\Kp w2 wr) (λx y z _=>(K - (intOf z).toNat))
 case atStart=>exact⟨0,JW _,rfl,by rw[H.out.1,H.out.2];exact Two.nil _ _ _ _,NQ _⟩
 case round=>
  obtain⟨m,hm,rfl,ht,E⟩:=hrel;have f:=JE (JN ht E);clear ht E;by_cases d:m<K
  ·obtain⟨gp,op,rfl,_,F⟩:=(R2.out.1.kp f.out.2).at m d
   obtain⟨gc,oc,rfl,_,G⟩:=(R2.out.2.1.kp f.out.2).at m d;have R:=F m d;have c2:=G m d;rw[v.out m d] at R;rw[A.out m d] at c2;have i1:IntKind.i64.wrap ((m:Int)+1)=(m:Int)+1:=JI _ (by omega);have i3:(m:Int)<(K:Int):=by omega
   have HR:=JE (j.out m wr (R2.out.2.2.trans f.out.2));rw[HW.out m] at HR;have aj:=JE (u.out m);have J:=JE (s.out m);have I:=JE (q.out m);have B:Hid (∀ W,Kp wr W->W.cell? ⟨gp,op+m,none⟩=some (.int .i64 ((nd (m+1) (i / 2 ^ (m+1)):Nat):Int))):=λW hW=>hW.cell R
   generalize nd (m+1) (i / 2 ^ (m+1))=X at *;generalize nd m (sq (i / 2 ^ m))=Y at *;clear F G j A v s q u HW;go_wp2_with fail;refine HR.out.mono ?_;rintro _ w3 ⟨⟨r,rfl,P⟩,C⟩;have O3:=JE P;have K3:=JE C;have V:=JE (f.out.1.kp C);have KW:=JE (f.out.2.trans C);have c3:=B.out w3 C;have p:=P.ri;obtain⟨ar,cr,e3,p4,s4⟩:=p.shape;subst e3;generalize WF m=T at *;by_cases h0:T.length=0
   ·have ah:¬(0:Int)<(T.length:Int):=by omega
    have l:=JE (J.out h0);clear P C p HR R c2 B I;go_wp2_with fail;go_roundw
    case rel=>exact⟨m+1,by omega,by go_num,by rw[l.out.1,l.out.2];exact V.out,KW.out⟩
    case measure=>simp[intOf];omega
   ·have ah:(0:Int)<(T.length:Int):=by omega
    have l:=JE (I.out h0);clear P C p HR R c2 B J h0;have D:(ST m).length+1<=1000000/\(U m).length+1<=1000000:=by have:=aj.out;omega
    have HB:Hid (w2.heap.size<=w3.heap.size):=KW.out.size;go_wp2_with(first
     | (at_builtin;refine fL (S:=shN) (Z:=noB) (o:=⟨some 52,_,_,_,_,_⟩) nK rfl _ _ rfl w2.heap.size _ (ST m) rfl (V.out.a.kp ((NQ _).alloc _)) _ [X] rfl (SE.litZ (S:=shN) 3 rfl rfl) (by exact D.1) (Kd HB.out (by simp)) ?_;intro v4 w4 o4 g4 q4;have t4:Two 3 34 w4 w2.heap.size v4 _ (ST m++[X]) (U m):=Two.one (V.out.kp ((NQ _).alloc _)) o4 g4 q4;have k4:Kp w2 w4:=NS (KW.out.alloc _) g4 (λk hk=>(V.out.a.lt k hk).1);have R4:=JE (Gu f.out.1 O3.out g4 q4);have T4:=JE t4;have K4:=JE k4)
     | (at_builtin;refine fL (S:=gV) (Z:=λg=>some g=v4.ownBlock) (o:=⟨some 56,_,_,_,_,_⟩) riK rfl _ _ rfl w2.heap.size _ (U m) rfl (T4.out.b.kp ((NQ _).alloc _)) _ [T] rfl (SE.litZ (S:=gV) 34 ⟨_,rfl,R4.out.1,R4.out.2⟩ rfl) (by exact D.2) (Kd K4.out.size (by simp)) ?_;intro v5 w5 o5 g5 q5;have T5:=JE (Two.two (T4.out.kp ((NQ _).alloc _)) o5 g5 q5);have K5:Hid (Kp w2 w5):=NS (K4.out.alloc _) g5 (λk hk=>(T4.out.b.lt k hk).1)))
    go_roundw
    case rel=>exact⟨m+1,by omega,by go_num,by rw[l.out.1,l.out.2];exact T5.out,K5.out⟩
    case measure=>simp[intOf];omega
  ·obtain rfl:m=K:=by omega
   have h1:¬(m:Int)<(m:Int):=by omega
   have l:=JE (JN f.out.1.a.gl.rn (JN f.out.1.b.gl (R2.out.2.2.trans f.out.2)));clear j A v s q u HW;go_wp2_with fail;go_ret2;exact⟨⟨_,_,rfl,l.out.1,l.out.2.1⟩,l.out.2.2⟩
theorem JA (aa:Value)(t:List Nod)(K:Nat)(i:Int)(w:World)(f:NL w aa t)(g:aD t K):
  Calls prog 14 #[aa,.int .i64 i] w λe w'=>(∃ v,e=.returned (.tuple #[v,.int .i64 (eU t i)])/\RN w' v (gQ t K i))/\Kp w w':=by
 obtain⟨q,p,o⟩:=g.small;have l:=JE (ox aa t i w f (by omega));by_cases b:bc t i
 ·obtain⟨k,rfl,z,d,n⟩:=ju g b
  have j:eU t (k:Int)=0:=by unfold eU;rw[if_pos b]
  have h:gQ t K (k:Int)=aC t k K:=by unfold gQ;rw[if_pos b,JX]
  rw[Ke b] at l;rw[j,h];have A:=JE (yN aa t K k w f g z);obtain⟨a,c,rfl,_,_⟩:=f.shape;generalize aC t k K=J at *;generalize aT t k K=I at *;generalize t.length=N at *;clear f g b j h d n q p o;go_enter func14,ntmps14;go_wp2_with fail;refine l.out.mono ?_;rintro _ _ ⟨rfl,rfl⟩;go_wp2_with fail;refine A.out.mono ?_;rintro _ B ⟨⟨x,y,rfl,m,r⟩,s⟩;have u:=JE (JN m s);obtain⟨H,D,F,rfl⟩:=m.sl;obtain⟨G,C,E,rfl⟩:=Oc r;clear m r s;go_wp2_with fail;go_ret2;exact⟨⟨_,rfl,u.out.1⟩,u.out.2⟩
 ·have j:eU t i=11:=by unfold eU;rw[if_neg b]
  have h:gQ t K i=[]:=by unfold gQ;rw[if_neg b]
  rw[Kb b] at l;rw[j,h];obtain⟨a,c,rfl,_,_⟩:=f.shape;generalize t.length=N at *;clear f g b j h q p o;go_enter func14,ntmps14;go_wp2_with fail;refine l.out.mono ?_;rintro _ _ ⟨rfl,rfl⟩;go_wp2_with fail;go_ret2;exact⟨⟨_,rfl,RN.nil _⟩,NQ _⟩
def dR (l:List Sd)(s:Sd)(k:Nat)(d:Bool)(o:List Sd):Prop:=dY l s=o++(if d then l.drop k else dY (l.drop k) s)/\o.length=k+(if d then 1 else 0)
theorem dR.start (l:List Sd)(s:Sd):dR l s 0 false []:=⟨by simp,rfl⟩
theorem te (h:k<l.length):l.drop k=aG l k :: l.drop (k+1):=by
 rw[eV h];exact LK h
theorem dR.low (h:dR l s k false o)(b:k<l.length)(a:¬s.node<(aG l k).node):dR l s (k+1) false (o++[aG l k]):=by
 obtain⟨d,c⟩:=h;refine⟨?_,by simp[c]⟩;rw[d,if_neg (by simp),if_neg (by simp),te b];show o++(if s.node<(aG l k).node then _ else _)=_
 rw[if_neg a];simp
theorem dR.in (h:dR l s k false o)(b:k<l.length)(a:s.node<(aG l k).node):dR l s (k+1) true ((o++[s])++[aG l k]):=by
 obtain⟨d,c⟩:=h;refine⟨?_,by simp[c]⟩;rw[d,if_neg (by simp),if_pos rfl,te b];show o++(if s.node<(aG l k).node then _ else _)=_
 rw[if_pos a];simp
theorem dR.high (h:dR l s k true o)(a:k<l.length):dR l s (k+1) true (o++[aG l k]):=by
 obtain⟨c,b⟩:=h;refine⟨?_,by simp[b]⟩;rw[c,if_pos rfl,if_pos rfl,te a];simp
theorem dR.endNo (h:dR l s l.length false o):o++[s]=dY l s:=by
 rw[h.1,if_neg (by simp),NA];rfl
theorem dR.endYes (h:dR l s l.length true o):o=dY l s:=by
 rw[h.1,if_pos rfl,NA];simp
theorem GC (Z:Nat->Prop)(aa q:Value)(l:List Sd)(s:Sd)(w:World)(P:SZ bQ Z w aa l)(T:RZ Z w q s.seed)(hZ:∀ g,Z g->g<w.heap.size)(hl:l.length<=100000):
  Calls prog 65 #[aa,.agg #[.int .i64 s.node,q]] w λe w'=>(∃ r,e=.returned r/\SZ bQ Z w' r (dY l s))/\Kp w w':=by
 have ak:=JE P;have an:=JE T;have HZ:=JE hZ;have hu:SL w aa l:=P.1.mono λ_ h=>h.elim
 have hq:Rd w q s.seed:=T.1;clear P T hZ;have HU:=JE hu;have HQ:=JE hq;obtain⟨a,c,rfl,p1,s1⟩:=hu.shape;obtain⟨aq,nq,cq,rfl⟩:=aA hq;have u:=JE (λk o h m hn=>dR.low (l:=l) (s:=s) (k:=k) (o:=o) h m hn);have E:=JE (λk o h m hn=>dR.in (l:=l) (s:=s) (k:=k) (o:=o) h m hn);have p:=JE (λk o h m=>dR.high (l:=l) (s:=s) (k:=k) (o:=o) h m);have H:=JE (λo h=>dR.endNo (l:=l) (s:=s) (o:=o) h);have G:=JE (λo h=>dR.endYes (l:=l) (s:=s) (o:=o) h);have ab:=JE (dR.start l s);have HG:Hid (∀ k d o,dR l s k d o->k<=l.length->o.length<=100001):=λk d o h m=>by have h2:=h.2;cases d <;> simp at h2 <;> omega
 generalize dY l s=aj at *;obtain⟨N,hN⟩:∃ N,l.length=N:=⟨_,rfl⟩;have HN:=JE hN;rw[hN] at HU p1 u E p H G HG hl ⊢;obtain⟨SN,V⟩:∃ n,s.node=n:=⟨_,rfl⟩;have am:=JE V;rw[V] at u E ⊢;clear hu hq hN V;go_enter func65,ntmps65;go_wp2_with fail;obtain⟨j,z⟩:∃ j,w.alloc (.cells #[.int .i64 SN,.slice aq nq cq] 90)=j:=⟨_,rfl⟩;have hb:Bx j w.heap.size 90 #[.int .i64 SN,.slice aq nq cq]:=by rw[<-z];exact Oa w _ _
 have af:Kp w j:=by rw[<-z];exact(NQ _).alloc _
 have HB:=JE (JN hb af);have ae:j.heap.size=w.heap.size+1:=by rw[<-z];simp
 have al:=JE ae;rw[z];trace_state
 clear hb af z ae;go_loopw[5,6,7] (λv d i wr=>∃ (k:Nat) (b:Bool) (o:List Sd),k<=N/\i=.int .i64 (k:Int)/\d=.bool b/\GZ bQ 90 Z wr j.heap.size v o/\dR l s k b o/\Kp j wr) (λ_ _ i _=>(N - (intOf i).toNat))
 case atStart=>exact⟨0,false,[],JW _,rfl,rfl,GZ.nil _ _ _,ab.out,NQ _⟩
 case round=>
  obtain⟨k,b,o,m,rfl,rfl,ho,A,U⟩:=hrel;obtain⟨ao,no,co,rfl⟩:=Oc ho.gl;have f:=JE (JN ho U);have ar:=HG.out k b o A m;have Y:=HB.out.1.kp U;have b0:=Y.cell 0;have b1:=Y.cell 1;simp only[JT,JS,JU] at b0 b1;have ah:Hid (∀ W (v:Value),Kp j W->(∀ g,v.ownBlock=some g->j.heap.size<=g)->bQ.R (λg=>some g=v.ownBlock\/Z g) W [.int .i64 SN,.slice aq nq cq] s):=λW v hW hv=>by
   refine⟨_,by rw[am.out],HQ.out.kp (HB.out.2.trans hW),λx n c e h0 m=>m.elim (λh=>by have:=hv _ h.symm;have:=al.out;have:=HQ.out.inside x n c e h0;omega) λh=>an.out.2 x n c e h0 h⟩
  clear ho U Y;by_cases J:k<N
  ·obtain⟨g1,o1,c1,q1,e1,_,B,ai⟩:=SZ.nodeZ (i:=k) (ak.out.kp HB.out.2) (by rw[HN.out];exact J)
   rw[HN.out] at e1;simp only[JR] at e1;obtain⟨rfl,_,rfl⟩:=e1;obtain⟨a1,n1,ag,rfl⟩:=aA (B _ (NQ _)).2.2;have i1:IntKind.i64.wrap ((k:Int)+1)=(k:Int)+1:=JI _ (by omega);have i3:(k:Int)<(N:Int):=by omega
   have ad:Hid (∀ W,Kp j W->W.cell? ⟨g1,o1+k*2,none⟩=some (.int .i64 (aG l k).node)/\W.cell? ⟨g1,o1+k*2+1,none⟩=some (.slice a1 n1 ag)):=λW hW=>⟨(B W hW).1,(B W hW).2.1⟩
   have Q:=(B _ (NQ _)).2.2;have K:Hid (∀ W (v:Value),Kp j W->(∀ g,v.ownBlock=some g->j.heap.size<=g)->bQ.R (λg=>some g=v.ownBlock\/Z g) W [.int .i64 (aG l k).node,.slice a1 n1 ag] (aG l k)):=λW v hW hv=>
    ⟨_,rfl,Q.kp hW,λx n c e h0 m=>m.elim (λh=>by have:=hv _ h.symm;have:=Q.inside x n c e h0;omega) λh=>ai x n c e h0 h⟩
   have D:=u.out k o;have HI:=E.out k o;have F:=p.out k o;have y:o.length+1<=1000000/\o.length+1+1<=1000000:=by omega
   obtain⟨d0,d1⟩:=ad.out wr f.out.2;clear u E p H G ab B Q;generalize hX:aG l k=X at *;clear hX;obtain⟨XN,XS⟩:=X;dsimp only at d0 d1 D HI F ad K
   cases b
   ·by_cases hx:SN<XN
    ·have L:=JE (HI A J hx)
     clear D HI F A;go_wp2_with fail;go_region
     go_wp2_with(first
      | (at_builtin;refine fL (S:=bQ) (Z:=Z) (o:=⟨some 29,_,_,_,_,_⟩) sdK rfl _ _ rfl j.heap.size _ o rfl (f.out.1.kp ((NQ wr).alloc _).drew) _ [s] rfl (SE.litZ (S:=bQ) (w:=wr.drew) 90 (ah.out wr.drew _ f.out.2.drew (λg t=>(f.out.1.lt g t).1)) rfl) (by exact y.1) (Kd f.out.2.size (by simp)) ?_;intro v4 w4 o4 g4 _;have k4:Hid (Kp j w4):=NS (f.out.2.alloc _).drew g4 (λk m=>(f.out.1.lt k m).1);have O4:=JE o4;obtain⟨e0,e1⟩:=ad.out w4 k4.out)
      | (at_builtin;refine fL (S:=bQ) (Z:=Z) (o:=⟨some 36,_,_,_,_,_⟩) sdK rfl _ _ rfl j.heap.size _ (o++[s]) rfl (O4.out.kp ((NQ w4).alloc _)) _ [⟨XN,XS⟩] rfl (SE.litZ (S:=bQ) (w:=w4) 90 (K.out w4 _ k4.out (λg t=>(O4.out.lt g t).1)) rfl) (by rw[JQ];exact y.2) (Kd k4.out.size (by simp)) ?_;intro v5 M I g5 _;have O:Hid (Kp j M):=NS (k4.out.alloc _) g5 (λk m=>(O4.out.lt k m).1)))
     go_roundw
     case rel=>exact⟨k+1,true,_,by omega,by go_num,rfl,I,L.out,O.out⟩
     case measure=>simp[intOf];omega
    ·have L:=JE (D A J (by omega))
     have ap:¬SN<XN:=hx;clear D HI F A;go_wp2_with fail;go_region
     go_wp2_with(at_builtin;refine fL (S:=bQ) (Z:=Z) (o:=⟨some 36,_,_,_,_,_⟩) sdK rfl _ _ rfl j.heap.size _ o rfl (f.out.1.kp ((NQ wr).alloc _).drew) _ [⟨XN,XS⟩] rfl (SE.litZ (S:=bQ) (w:=wr.drew) 90 (K.out wr.drew _ f.out.2.drew (λg t=>(f.out.1.lt g t).1)) rfl) (by exact y.1) (Kd f.out.2.size (by simp)) ?_;intro v5 M I g5 _;have O:Hid (Kp j M):=NS (f.out.2.alloc _).drew g5 (λk m=>(f.out.1.lt k m).1))
     go_roundw
     case rel=>exact⟨k+1,false,_,by omega,by go_num,rfl,I,L.out,O.out⟩
     case measure=>simp[intOf];omega
   ·have L:=JE (F A J)
    clear D HI F A;go_wp2_with fail;go_region
    go_wp2_with(at_builtin;refine fL (S:=bQ) (Z:=Z) (o:=⟨some 36,_,_,_,_,_⟩) sdK rfl _ _ rfl j.heap.size _ o rfl (f.out.1.kp ((NQ wr).alloc _).drew) _ [⟨XN,XS⟩] rfl (SE.litZ (S:=bQ) (w:=wr.drew) 90 (K.out wr.drew _ f.out.2.drew (λg t=>(f.out.1.lt g t).1)) rfl) (by exact y.1) (Kd f.out.2.size (by simp)) ?_;intro v5 M I g5 _;have O:Hid (Kp j M):=NS (f.out.2.alloc _).drew g5 (λk m=>(f.out.1.lt k m).1))
    go_roundw
    case rel=>exact⟨k+1,true,_,by omega,by go_num,rfl,I,L.out,O.out⟩
    case measure=>simp[intOf];omega
  ·obtain rfl:k=N:=by omega
   have y:o.length+1<=1000000:=by omega
   clear u E p ab HU;cases b
   ·have L:=JE (H.out o A)
    clear A H G;go_wp2_with(at_builtin;refine fL (S:=bQ) (Z:=Z) (o:=⟨some 42,_,_,_,_,_⟩) sdK rfl _ _ rfl j.heap.size _ o rfl (f.out.1.kp ((NQ wr).alloc _)) _ [s] rfl (SE.litZ (S:=bQ) (w:=wr) 90 (ah.out wr _ f.out.2 (λg t=>(f.out.1.lt g t).1)) rfl) (by exact y) (Kd f.out.2.size (by simp)) ?_;intro v5 M I g5 _;have O:Hid (Kp j M):=NS (f.out.2.alloc _) g5 (λk m=>(f.out.1.lt k m).1))
    rw[L.out] at I;have KK:=JE (HB.out.2.trans O.out);go_ret;exact⟨⟨_,rfl,I.se,dZ (C:=j.heap.size) (λg t=>(I.lt g t).1) λg t=>JV (HZ.out g t) HB.out.2.size⟩,KK.out⟩
   ·have L:=JE (G.out o A)
    clear A H G;have HF:Hid (SZ bQ Z wr (.slice ao no co) aj/\Kp w wr):=⟨by rw[<-L.out];exact⟨f.out.1.se,dZ (C:=j.heap.size) (λg t=>(f.out.1.lt g t).1) λg t=>JV (HZ.out g t) HB.out.2.size⟩,HB.out.2.trans f.out.2⟩;go_wp2_with fail;go_ret;exact⟨⟨_,rfl,HF.out.1⟩,HF.out.2⟩
theorem bl.at (h:bl t K){x:Nat}(a:x<t.length):∃ j q,x=nd j q/\j<=K/\q<2 ^ (K - j):=iE K x (by rw[<-h.len];exact a)
theorem GI (vt:Value)(t:List Nod)(K j q:Nat)(d:Int)(w:World)(hT:bl t K)(ht:NL w vt t)(hj:j+1<=K)(hq:q<2 ^ (K - (j+1)))(hs:d=0\/d=1)(ag:(ats t (nd (j+1) q)).kind=2):
  Calls prog 157 #[vt,.int .i64 ((nd (j+1) q:Nat):Int),.int .i64 d] w λe w'=>(∃ r,e=.returned (.tuple #[r,.int .i64 0])/\Ow 5 w' w.heap.size r (bJ ([3]++aO (ats t (nd (j+1) q)).pub++aO (ats t (nd (j+1) q)).hash++aO (bW t (ats t (nd (j+1) q)).un j (ep d q)))))/\Kp w w':=by
 have U:=aj;obtain⟨x1,x2⟩:=hT.lt hj hq;obtain⟨b,ad,c,p,aa,h,rfl,H⟩:=ht.node x1;have s:=JE H.2;obtain⟨c0,c1,c2,c3,c4⟩:=JN H.kind (JN H.name (JN H.pubC (JN H.unC H.hashC)));rw[ag] at c0;have B:=JE (hT.node (nd (j+1) q));obtain⟨k1,V⟩:=qC hj hq;obtain⟨_,y1,y2⟩:=ec hT.le hj hq;obtain⟨f1,f2,f3⟩:=fK (j:=j) (q:=q) y1 y2;have D:=JE (λW=>lO ((nd (j+1) q:Nat):Int) W);have Q:=JE (λW=>lP ((nd (j+1) q:Nat):Int) W);rw[f1,f2] at D;rw[f1,f3] at Q;have E:Hid (∀ W vg,Kp w W->RI W vg (ats t (nd (j+1) q)).un->Calls prog 192 #[.slice (some ⟨b,ad,none⟩) t.length c,.int .i64 ((nd j (ep d q):Nat):Int),vg] W λe w'=>(∃ r,e=.returned r/\Ow 5 w' W.heap.size r (bW t (ats t (nd (j+1) q)).un j (ep d q)))/\Kp W w'):=λW vg l hg=>
  yQ t K hT j (ep d q) W _ vg _ (by omega) (ht.kp l) hg (by unfold ep;split <;> assumption)
 have ab:=JE (lD t (ats t (nd (j+1) q)).un j (ep d q));obtain⟨L,F,I,rfl⟩:=aA H.2.pub;obtain⟨M,G,J,rfl⟩:=aA H.2.hash;obtain⟨au,nu,cu,rfl⟩:=H.2.un.sl;have lp:=fo (x:=(ats t (nd (j+1) q)).pub) (by have:=B.out.pub;omega);have lh:=fo (x:=(ats t (nd (j+1) q)).hash) (by have:=B.out.hash;omega);have ae:=B.out.pub;have af:=B.out.hash;have z1:¬((nd (j+1) q:Nat):Int)<0:=by omega
 have z2:¬(t.length:Int)<=((nd (j+1) q:Nat):Int):=by omega
 have z5:((nd (j+1) q:Nat):Int)<(t.length:Int):=by omega
 clear B;generalize bW t (ats t (nd (j+1) q)).un j (ep d q)=DG at *;have lr:=fo (x:=DG) (by have:=ab.out;omega);have g:Hid ((aO (ats t (nd (j+1) q)).pub).length<=42/\(aO (ats t (nd (j+1) q)).hash).length<=42/\(aO DG).length<=40):=⟨by omega,by omega,by have:=ab.out;omega⟩;obtain⟨OX,Y⟩:∃ OX,nd j (ep d q)=OX:=⟨_,rfl⟩;rw[Y] at E;have R:Hid ((d=0->nd j (2*q+1)=OX)/\(d=1->nd j (2*q)=OX)):=by
  rw[<-Y];exact⟨λh=>by rw[h];rfl,λh=>by rw[h];rfl⟩
 clear hT ht H hq k1 V y1 y2 f1 f2 f3 hj lp lh ae af lr ab Y;generalize nd j (2*q)=XL at *;generalize nd j (2*q+1)=XR at *;generalize nd (j+1) q=X at *;generalize t.length=TL at *;generalize ats t X=m at *;rcases hs with rfl|rfl
 ·have hx:=R.out.1 rfl
  subst hx;go_enter func157,ntmps157;go_wp2_with fail;refine(D.out _).mono ?_;rintro _ _ ⟨rfl,rfl⟩;go_wp2_with fail;refine(Q.out _).mono ?_;rintro _ _ ⟨rfl,rfl⟩;go_wp2_with fail;obtain⟨z,k⟩:∃ z,w.alloc (.cells #[.int .i64 2,.int .i64 m.name,.slice L F I,.slice au nu cu,.slice M G J] 81)=z:=⟨_,rfl⟩;rw[k];have u:Hid (Bx z w.heap.size 81 #[.int .i64 2,.int .i64 m.name,.slice L F I,.slice au nu cu,.slice M G J]):=by rw[<-k];exact Oa _ _ _
  have o:Hid (Kp w z):=by rw[<-k];exact(NQ _).alloc _
  clear k D Q c0 c1 c2 c3 c4;refine(E.out _ _ o.out (s.out.un.kp o.out)).mono ?_;rintro _ w2 ⟨⟨r2,rfl,o2⟩,V⟩;go_wp2_with fail;refine(iC _ DG w2 o2.rd).mono ?_;rintro _ a ⟨⟨r3,rfl,o3⟩,k3⟩;have i:Kp z a:=Kp.trans V k3;have P:Hid (Kp w a):=o.out.trans i;have C:Hid (∀ W,Kp a W->Rd W r3 (aO DG)):=λW l=>o3.rd.kp l
  have f:Hid (∀ W,Kp a W->W.cell? ⟨w.heap.size,2,none⟩=some (.slice L F I)/\W.cell? ⟨w.heap.size,4,none⟩=some (.slice M G J)):=λW l=>⟨((u.out.kp i).kp l).cell 2,((u.out.kp i).kp l).cell 4⟩
  have HP:Hid (∀ W,Kp a W->Calls prog 191 #[.slice L F I] W λe w'=>(∃ r,e=.returned r/\Ow 5 w' W.heap.size r (aO m.pub))/\Kp W w'):=λW l=>iC _ m.pub W (s.out.pub.kp (P.out.trans l))
  have HH:Hid (∀ W,Kp a W->Calls prog 191 #[.slice M G J] W λe w'=>(∃ r,e=.returned r/\Ow 5 w' W.heap.size r (aO m.hash))/\Kp W w'):=λW l=>iC _ m.hash W (s.out.hash.kp (P.out.trans l))
  have HL:Hid (∀ W:World,Ow 5 (W.alloc (.cells #[.int .u8 3] 5)) W.heap.size (.slice (some ⟨W.heap.size,0,none⟩) 1 1) [3]):=λW=>NT W _ _ 1 _ [3] (JO _) rfl (by omega) rfl
  have KB:Hid (Kp a a.drew):=gY a;have KA:Hid (Kp a (a.alloc (.cells #[.int .u8 3] 5)).drew):=(((NQ a).alloc _)).drew;have S0:=JE (f.out _ KB.out);have SA:=JE (f.out _ KA.out);have SC:=(f.out _ (NQ a));clear o2 o3 V k3 E u o s i R;go_wp2_with fail;clear SC;go_region_held3 (λW=>W.cell? ⟨w.heap.size,2,none⟩=some (.slice L F I)/\W.cell? ⟨w.heap.size,4,none⟩=some (.slice M G J))
   (first|with_reducible exact S0.out|with_reducible exact SA.out|with_reducible exact S4.out|with_reducible exact SB.out|with_reducible exact S5.out|with_reducible exact S6.out|with_reducible exact S7.out|with_reducible exact S8.out|with_reducible exact S9.out)
   (first
    | (go_at_call 185;refine(jN _ _ _ o8.rd (by simp only[JQ,Ka,Kf];have:=g.out;omega)).mono ?_;rintro _ w9 ⟨⟨r9,rfl,o9⟩,k9⟩;have K9:=JE (K8.out.trans k9);have S9:=JE (f.out _ K9.out))
    | (refine fb U rfl (.tmp 64) (.tmp 65) rfl a.heap.size _ _ rfl o7 _ _ rfl (C.out _ O.out) (by simp only[JQ,Ka,Kf];have:=g.out;omega) O.out.size ?_;intro v8 w8 o8 g8;have K8:=JE (NS O.out g8 o7.own_ge);have S8:=JE (f.out _ K8.out))
    | (refine fb U rfl (.tmp 60) (.tmp 63) rfl a.heap.size _ _ rfl (S.kp k6) _ _ rfl o6.rd (by simp only[JQ,Ka,Kf];have:=g.out;omega) K6.out.size ?_;intro v7 w7 o7 g7;have O:=JE (NS K6.out g7 S.own_ge);have S7:=JE (f.out _ O.out))
    | (go_at_call 191;refine(HH.out _ A.out).mono ?_;rintro _ w6 ⟨⟨r6,rfl,o6⟩,k6⟩;have K6:=JE (A.out.trans k6);have S6:=JE (f.out _ K6.out))
    | (refine fb U rfl (.tmp 56) (.tmp 59) rfl a.heap.size _ _ rfl y _ _ rfl T.rd (by simp only[JQ,Ka,Kf];have:=g.out;omega) n.out.size ?_;intro v5 w5 S Z;have A:=JE (NS n.out Z y.own_ge);have S5:=JE (f.out _ A.out))
    | (refine fb U rfl (.tmp 56) (.tmp 59) rfl a.heap.size _ _ rfl v _ _ rfl (T.rd.kp ((NQ _).alloc _)) (by simp only[JQ,Ka,Kf];have:=g.out;omega) (n.out.alloc _).size ?_;intro v5 w5 S Z;have A:=JE (NS (n.out.alloc _) Z v.own_ge);have S5:=JE (f.out _ A.out))
    | (go_at_call 191;refine(HP.out (a.alloc (.cells #[.int .u8 3] 5)).drew KA.out).mono ?_;rintro _ w4 ⟨⟨r4,rfl,T⟩,N⟩;have n:=JE (KA.out.trans N);have S4:=JE (f.out _ n.out);have y:=((HL.out a).kp (gY _)).kp N)
    | (go_at_call 191;refine(HP.out a.drew KB.out).mono ?_;rintro _ w4 ⟨⟨r4,rfl,T⟩,N⟩;have n:=JE (KB.out.trans N);have S4:=JE (f.out _ n.out);have SB:=JE (f.out _ (n.out.alloc (.cells #[.int .u8 3] 5)));have v:=(HL.out w4).mono n.out.size))
  all_goals
   go_wp2_with fail;go_ret2;exact⟨⟨_,rfl,o9.mono (P.out.trans K8.out).size⟩,P.out.trans K9.out⟩
 ·have hx:=R.out.2 rfl
  subst hx;go_enter func157,ntmps157;go_wp2_with fail;refine(D.out _).mono ?_;rintro _ _ ⟨rfl,rfl⟩;go_wp2_with fail;obtain⟨z,k⟩:∃ z,w.alloc (.cells #[.int .i64 2,.int .i64 m.name,.slice L F I,.slice au nu cu,.slice M G J] 81)=z:=⟨_,rfl⟩;rw[k];have u:Hid (Bx z w.heap.size 81 #[.int .i64 2,.int .i64 m.name,.slice L F I,.slice au nu cu,.slice M G J]):=by rw[<-k];exact Oa _ _ _
  have o:Hid (Kp w z):=by rw[<-k];exact(NQ _).alloc _
  clear k D Q c0 c1 c2 c3 c4;refine(E.out _ _ o.out (s.out.un.kp o.out)).mono ?_;rintro _ w2 ⟨⟨r2,rfl,o2⟩,V⟩;go_wp2_with fail;refine(iC _ DG w2 o2.rd).mono ?_;rintro _ a ⟨⟨r3,rfl,o3⟩,k3⟩;have i:Kp z a:=Kp.trans V k3;have P:Hid (Kp w a):=o.out.trans i;have C:Hid (∀ W,Kp a W->Rd W r3 (aO DG)):=λW l=>o3.rd.kp l
  have f:Hid (∀ W,Kp a W->W.cell? ⟨w.heap.size,2,none⟩=some (.slice L F I)/\W.cell? ⟨w.heap.size,4,none⟩=some (.slice M G J)):=λW l=>⟨((u.out.kp i).kp l).cell 2,((u.out.kp i).kp l).cell 4⟩
  have HP:Hid (∀ W,Kp a W->Calls prog 191 #[.slice L F I] W λe w'=>(∃ r,e=.returned r/\Ow 5 w' W.heap.size r (aO m.pub))/\Kp W w'):=λW l=>iC _ m.pub W (s.out.pub.kp (P.out.trans l))
  have HH:Hid (∀ W,Kp a W->Calls prog 191 #[.slice M G J] W λe w'=>(∃ r,e=.returned r/\Ow 5 w' W.heap.size r (aO m.hash))/\Kp W w'):=λW l=>iC _ m.hash W (s.out.hash.kp (P.out.trans l))
  have HL:Hid (∀ W:World,Ow 5 (W.alloc (.cells #[.int .u8 3] 5)) W.heap.size (.slice (some ⟨W.heap.size,0,none⟩) 1 1) [3]):=λW=>NT W _ _ 1 _ [3] (JO _) rfl (by omega) rfl
  have KB:Hid (Kp a a.drew):=gY a;have KA:Hid (Kp a (a.alloc (.cells #[.int .u8 3] 5)).drew):=(((NQ a).alloc _)).drew;have S0:=JE (f.out _ KB.out);have SA:=JE (f.out _ KA.out);have SC:=(f.out _ (NQ a));clear o2 o3 V k3 E u o s i R;go_wp2_with fail;clear SC;go_region_held3 (λW=>W.cell? ⟨w.heap.size,2,none⟩=some (.slice L F I)/\W.cell? ⟨w.heap.size,4,none⟩=some (.slice M G J))
   (first|with_reducible exact S0.out|with_reducible exact SA.out|with_reducible exact S4.out|with_reducible exact SB.out|with_reducible exact S5.out|with_reducible exact S6.out|with_reducible exact S7.out|with_reducible exact S8.out|with_reducible exact S9.out)
   (first
    | (go_at_call 185;refine(jN _ _ _ o8.rd (by simp only[JQ,Ka,Kf];have:=g.out;omega)).mono ?_;rintro _ w9 ⟨⟨r9,rfl,o9⟩,k9⟩;have K9:=JE (K8.out.trans k9);have S9:=JE (f.out _ K9.out))
    | (refine fb U rfl (.tmp 64) (.tmp 65) rfl a.heap.size _ _ rfl o7 _ _ rfl (C.out _ O.out) (by simp only[JQ,Ka,Kf];have:=g.out;omega) O.out.size ?_;intro v8 w8 o8 g8;have K8:=JE (NS O.out g8 o7.own_ge);have S8:=JE (f.out _ K8.out))
    | (refine fb U rfl (.tmp 60) (.tmp 63) rfl a.heap.size _ _ rfl (S.kp k6) _ _ rfl o6.rd (by simp only[JQ,Ka,Kf];have:=g.out;omega) K6.out.size ?_;intro v7 w7 o7 g7;have O:=JE (NS K6.out g7 S.own_ge);have S7:=JE (f.out _ O.out))
    | (go_at_call 191;refine(HH.out _ A.out).mono ?_;rintro _ w6 ⟨⟨r6,rfl,o6⟩,k6⟩;have K6:=JE (A.out.trans k6);have S6:=JE (f.out _ K6.out))
    | (refine fb U rfl (.tmp 56) (.tmp 59) rfl a.heap.size _ _ rfl y _ _ rfl T.rd (by simp only[JQ,Ka,Kf];have:=g.out;omega) n.out.size ?_;intro v5 w5 S Z;have A:=JE (NS n.out Z y.own_ge);have S5:=JE (f.out _ A.out))
    | (refine fb U rfl (.tmp 56) (.tmp 59) rfl a.heap.size _ _ rfl v _ _ rfl (T.rd.kp ((NQ _).alloc _)) (by simp only[JQ,Ka,Kf];have:=g.out;omega) (n.out.alloc _).size ?_;intro v5 w5 S Z;have A:=JE (NS (n.out.alloc _) Z v.own_ge);have S5:=JE (f.out _ A.out))
    | (go_at_call 191;refine(HP.out (a.alloc (.cells #[.int .u8 3] 5)).drew KA.out).mono ?_;rintro _ w4 ⟨⟨r4,rfl,T⟩,N⟩;have n:=JE (KA.out.trans N);have S4:=JE (f.out _ n.out);have y:=((HL.out a).kp (gY _)).kp N)
    | (go_at_call 191;refine(HP.out a.drew KB.out).mono ?_;rintro _ w4 ⟨⟨r4,rfl,T⟩,N⟩;have n:=JE (KB.out.trans N);have S4:=JE (f.out _ n.out);have SB:=JE (f.out _ (n.out.alloc (.cells #[.int .u8 3] 5)));have v:=(HL.out w4).mono n.out.size))
  all_goals
   go_wp2_with fail;go_ret2;exact⟨⟨_,rfl,o9.mono (P.out.trans K8.out).size⟩,P.out.trans K9.out⟩
theorem GJ (o:Value)(t:List Nod)(K:Nat)(x d:Int)(w:World)(n:bl t K)(k:NL w o t):
  Calls prog 157 #[o,.int .i64 x,.int .i64 d] w λe w'=>(∃ r,e=.returned (.tuple #[r,.int .i64 (gL t x d)])/\Ow 5 w' w.heap.size r (er t x d))/\Kp w w':=by
 by_cases h:0<=x/\x<t.length/\0<=d/\d<=1
 ·obtain⟨X,rfl⟩:=Kc h.1
  have v:X<t.length:=by omega
  by_cases l:(ats t X).kind=2
  ·have f:gL t (X:Int) d=0:=by unfold gL;rw[if_pos h,JX,if_pos l]
   have i:er t (X:Int) d=pc t X d:=by unfold er;rw[if_pos f,JX]
   rw[f,i];obtain⟨j,q,rfl,u,s⟩:=n.at v;have L:=ec n.le u s;cases j with
   | zero=>have A:=n.par _ l;have z:=kS q;omega
   | succ j=>
    unfold pc;rw[fV (j+1) q (by omega),kf (j+1) q (by omega),LR];exact GI o t K j q d w n k u s (by omega) l
  ·have f:gL t (X:Int) d=11:=by unfold gL;rw[if_pos h,JX,if_neg l]
   have i:er t (X:Int) d=[]:=if_neg (by rw[f];decide);rw[f,i];obtain⟨b,y,c,p,aa,M,rfl,g⟩:=k.node v;obtain⟨Z,Y,W,V,U⟩:=JN g.kind (JN g.name (JN g.pubC (JN g.unC g.hashC)));obtain⟨ap,I,S,rfl⟩:=aA g.2.pub;obtain⟨ah,J,T,rfl⟩:=aA g.2.hash;obtain⟨au,H,R,rfl⟩:=g.2.un.sl;have G:¬(X:Int)<0:=by omega
   have F:¬(t.length:Int)<=(X:Int):=by omega
   have E:¬d<0:=by omega
   have D:¬1<d:=by omega
   have C:(X:Int)<(t.length:Int):=by omega
   have B:((ats t X).kind==2)=false:=JL.2 l;clear h n k g f i;generalize t.length=TL at *;generalize ats t X=m at *;go_enter func157,ntmps157;go_wp2_with fail;go_ret2;exact⟨⟨_,rfl,NR _ _ _⟩,(NQ _).alloc _⟩
 ·have f:gL t x d=1:=if_neg h
  have i:er t x d=[]:=if_neg (by rw[f];decide);rw[f,i];obtain⟨a,c,rfl,A,z⟩:=k.shape;clear k f i;by_cases Q:x<0
  ·clear h
   go_enter func157,ntmps157;go_wp2_with fail;go_ret2;exact⟨⟨_,rfl,NR _ _ _⟩,NQ _⟩
  ·by_cases P:(t.length:Int)<=x
   ·clear h
    go_enter func157,ntmps157;go_wp2_with fail;go_ret2;exact⟨⟨_,rfl,NR _ _ _⟩,NQ _⟩
   ·by_cases O:d<0
    ·clear h
     go_enter func157,ntmps157;go_wp2_with fail;go_ret2;exact⟨⟨_,rfl,NR _ _ _⟩,NQ _⟩
    ·have N:1<d:=by omega
     clear h;go_enter func157,ntmps157;go_wp2_with fail;go_ret2;exact⟨⟨_,rfl,NR _ _ _⟩,NQ _⟩
def fI (t:List Nod)(i m:Nat):List Nod × List UInt8:=((pathT t i).drop m).reverse.foldl (dL i) (t,[])
theorem GK (h:(pathT t i).length<=m):fI t i m=(t,[]):=by
 unfold fI;rw[List.drop_of_length_le h];rfl
theorem GM (h:m<(pathT t i).length):fI t i m=dL i (fI t i (m+1)) ((pathT t i).getD m 0):=by
 unfold fI;rw[LK h,List.reverse_cons,List.foldl_append,JF,JG h];rfl
theorem GN (t:List Nod)(i:Nat):fI t i 0=fh t i:=by
 unfold fI fh;rw[List.drop_zero]
theorem GO (d:bl t K)(h:i<2 ^ K)(m:Nat):bl (fI t i m).1 K/\(fI t i m).1.length=t.length/\((fI t i m).2.length=0\/(fI t i m).2.length=32):=by
 obtain⟨l,f,k⟩:=lS d.le d.len h;obtain⟨a,b,c,_⟩:=rY (t:=t) (i:=i) ((pathT t i).drop m).reverse (t,[]) (λx g=>by
  obtain⟨j,e,rfl⟩:=Ld (Nd (List.mem_reverse.1 g));have:=f j e;rwa [JF,JG e] at this) d rfl (.inl rfl)
 exact⟨a,b,c⟩
theorem GP (aa:Value)(t:List Nod)(K:Nat)(i:Int)(w:World)(j:bl t K)(f:NL w aa t)(m:¬bc t i):
  Calls prog 116 #[aa,.int .i64 i] w λe w'=>e=.returned (.tuple #[aa,.int .i64 11])/\Kp w w':=by
 have o:t.length<=100000:=by have:=j.len;have:=bP j.le;have:=bi K;omega
 have r:=JE (gU aa t w f o);have n:=iY (t:=t) o;obtain⟨a,c,rfl,p1,C⟩:=f.shape;by_cases B:0<=i
 ·obtain⟨k,rfl⟩:=Kc B
  by_cases A:k<lvs t
  ·have d:=lQ A
   obtain⟨b,v,rfl,z,u⟩:=f.at (2*k) d;obtain⟨p,q,h,g⟩:=u (2*k) d;have F:=g.kind;have E:IntKind.i64.wrap (2*(k:Int))=((2*k:Nat):Int):=by rw[JI _ (by omega)];omega
   have D:((2*k:Nat):Int)<(t.length:Int):=by omega
   have x:(k:Int)<((lvs t:Nat):Int):=by omega
   have l:¬(ats t (2*k)).kind=1:=λl=>m ⟨by omega,by omega,by rw[JX];exact l⟩
   generalize (ats t (2*k)).kind=X at *;generalize lvs t=L at *;generalize t.length=N at *;generalize 2*k=G at *;have y:(X==1)=false:=JL.2 l;have s:(X != 1)=true:=Lt.2 l;clear u g f z d m j;go_enter func116,ntmps116;go_wp2_with fail;refine r.out.mono ?_;rintro _ _ ⟨rfl,rfl⟩;go_wp2_with fail;go_ret2;exact⟨rfl,NQ _⟩
  ·have x:¬(k:Int)<((lvs t:Nat):Int):=by omega
   generalize lvs t=L at *;generalize t.length=N at *;clear f m j;go_enter func116,ntmps116;go_wp2_with fail;refine r.out.mono ?_;rintro _ _ ⟨rfl,rfl⟩;go_wp2_with fail;go_ret2;exact⟨rfl,NQ _⟩
 ·generalize t.length=N at *
  clear f r n o m j;go_enter func116,ntmps116;go_wp2_with fail;go_ret2;exact⟨rfl,NQ _⟩
theorem GQ (aa:Value)(t:List Nod)(K i:Nat)(w:World)(hT:bl t K)(hu:NL w aa t)(hi:i<2 ^ K)(aI:(ats t (2*i)).kind=1):
  Calls prog 116 #[aa,.int .i64 (i:Int)] w λe w'=>(∃ r,e=.returned (.tuple #[r,.int .i64 0])/\NL w' r ((fh t i).1.set (2*i) (dm (ats (fh t i).1 (2*i)) (fh t i).2)))/\Kp w w':=by
 have S:=pI;have hK:=hT.le;have hl:=hT.len;have hp:=bP hK;have aZ:=bi K;have a0:=bE K;obtain⟨q1,q2,q3⟩:=lS hK hl hi;have H:t.length<=100000:=by omega
 have HL:=JE (gU aa t w hu H);have ay:=JE (λW (hW:Kp w W)=>gU aa t W (hu.kp hW) H);have bg:i<lvs t:=by unfold lvs;omega
 obtain⟨e1,e2⟩:=wR hK hl hi;have HP:Hid (∀ W,Calls prog 48 #[.int .i64 (2*(i:Int)),.int .i64 ((lvs t:Nat):Int)] W λe w'=>(∃ v,e=.returned (.tuple #[v,.int .i64 0])/\ON 3 w' W.heap.size v (pathT t i))/\Kp W w'):=λW=>by
  have:=ww (2*(i:Int)) ((lvs t:Nat):Int) W (by have:=iY H;omega);rwa [e1,e2] at this
 have HA:=JE (fun(v:Value) (hv:∀ g,v.ownBlock=some g->w.heap.size<=g) (W:World) (hW:Kp w W)=>hu.apart (v:=v) hW hv);have aj:Hid (fI t i K=(t,[])):=GK (by rw[q3];exact JO _);have aB:Hid (∀ m,m<K->fI t i m=dL i (fI t i (m+1)) ((pathT t i).getD m 0)):=λm hm=>GM (by rw[q3];exact hm)
 have Q:=JE (λm=>GO hT hi m);have ai:Hid (∀ m,m<K->(pathT t i).getD m 0<t.length):=λm hm=>q2 m (by rw[q3];exact hm)
 have R:=JE (λk h=>pL (pathT t i) k h);have bb:Hid (((pathT t i).map fun(n:Nat)=>(n:Int)).length=K):=by unfold Hid;rw[Kw,q3]
 rw[<-GN t i];have J:2*i<t.length:=by omega
 obtain⟨b,bd,c,p,uu,hh,rfl,d⟩:=hu.node J;have c1:=d.kind;rw[aI] at c1;obtain⟨z1,z2,z3⟩:t.length<=2047/\0<t.length/\t.length<=1000000:=by omega
 have i2:IntKind.i64.wrap (2*(i:Int))=2*(i:Int):=JI _ (by omega);have i3:2*(i:Int)<(t.length:Int):=by omega
 have i4:(i:Int)<((lvs t:Nat):Int):=by omega
 have i5:(2*(i:Int)).toNat=2*i:=by omega
 generalize fI t i=G at *;rw[q3] at R;have HU:=JE hu;generalize aN:(pathT t i).map (fun(n:Nat)=>(n:Int))=PI at *;have ba:Hid ((pathT t i).map (fun(n:Nat)=>(n:Int))=PI):=aN;generalize pathT t i=PT at *;generalize lvs t=L at *;obtain⟨N,hN⟩:∃ N,t.length=N:=⟨_,rfl⟩;have HN:=JE hN;rw[hN] at Q ai HL ay HU HA J z1 z2 z3 i3 ⊢;clear hu d hl hN e1 e2 q1 q2 q3 hK hp a0 aZ H aI aN hi;go_enter func116,ntmps116;go_wp2_with fail;refine HL.out.mono ?_;rintro _ _ ⟨rfl,rfl⟩;go_wp2_with(at_builtin;refine mH S rfl _ _ rfl w.heap.size _ [] rfl (NO.empty 81 w) _ t rfl (HA.out _ (λg hg=>by cases hg;exact JO _) _ ((NQ _).alloc _)) (by have:=HN.out;simp;omega) (by simp) ?_;intro v1 w1 o1 g1 _;have k1:Kp w w1:=NS ((NQ _).alloc _) g1 (λk hk=>by cases hk;exact JO _);rw[La] at o1)
 obtain⟨o,cb,rfl,b1,b2,b3,b4,_⟩:=o1.form (by have:=HN.out;omega);rw[HN.out] at o1 b3 ⊢;have O1:=JE (JN o1 k1);clear o1 g1 k1 HL HA c1;go_wp2_with fail;refine(ay.out _ O1.out.2).mono ?_;rintro _ _ ⟨rfl,rfl⟩;clear ay;go_wp2_with fail;refine(HP.out _).mono ?_;rintro _ w2 ⟨⟨pv,rfl,o2⟩,k2⟩;have aC:Hid (aQ (.slice (some ⟨o,0,none⟩) N cb) pv):=o2.oi.apart (λg hg=>by cases hg;exact b2);have r2:=o2.oi.ri;rw[ba.out] at r2;obtain⟨ap,cp,e2,p2,s2⟩:=r2.shape;subst e2;rw[bb.out] at r2 p2 aC ⊢;have aw:=JE r2;have HO:=JE (O1.out.1.kp k2);have HK:=JE (O1.out.2.trans k2);have a8:=JV b2 k2.size;clear HP O1 o2 r2 k2;go_wp2_with fail;have bh:IntKind.i64.wrap ((K:Int) - 1)=(K:Int) - 1:=JI _ (by have:=hT.le;omega);go_loopw[9,10] (λx kv wr=>∃ m:Nat,m<=K/\kv=.int .i64 ((m:Int) - 1)/\Rd wr x (G m).2/\aQ (.slice (some ⟨o,0,none⟩) N cb) x/\NO 81 wr w.heap.size (.slice (some ⟨o,0,none⟩) N cb) (G m).1/\RI wr (.slice ap K cp) PI/\Kp w wr/\o<wr.heap.size) (λ_ kv _=>(intOf kv+1).toNat)
 case atStart=>exact⟨K,JO _,congrArg _ (IntWalk.wrap64_in _ (by have:=hT.le;omega)),by rw[aj.out];exact bU _,NZ _ _ _,by rw[aj.out];exact HO.out,aw.out,HK.out,a8⟩
 case round=>
  obtain⟨m,hm,rfl,ae,aq,ho,ad,an,a4⟩:=hrel;have z:=JE (JN ae aq);have M:=JE ho;have ah:=JE ad;have P:=JE (JN an a4);obtain⟨am,E,aE⟩:=Q.out m;have TK:=JE am;obtain⟨xt,nt,s,rfl⟩:=aA ae;cases m with
  | zero=>
   obtain⟨a5,a7,ee,_,_,_,_,C⟩:=ho.form (by omega);rw[E] at ee C;simp only[JR,Ky,Lv] at ee;obtain⟨⟨rfl,_,_⟩,_,rfl⟩:=ee;obtain⟨p,q,hh,d,a1,a2,a3⟩:=C (2*i) J;have A:=JE d.2;have O:=JE d;have D:=JE (JN a1 a2);have c0:=d.kind;have c1:=d.name;have c2:=d.pubC;have c3:=d.unC;have c4:=d.hashC;obtain⟨V,Z,j,rfl⟩:=aA d.2.pub;obtain⟨U,Y,f,rfl⟩:=d.2.un.sl;obtain⟨xh,nh,aY,rfl⟩:=aA d.2.hash;have af:=JE E;clear aB Q ai R aj HO aw HK ae aq ho ad an C d a1 a2 am aE E TK ah aC a3;obtain⟨X,hX⟩:∃ X,2*i=X:=⟨_,rfl⟩;have HX:=JE hX;have bf:IntKind.i64.wrap (2*(i:Int))=(X:Int):=by rw[i2];omega
   have be:(X:Int)<(N:Int):=by omega
   have i0:((0:Nat):Int) - 1 = -1:=rfl;rw[hX] at c0 c1 c2 c3 c4 A J ⊢;rw[i0];clear i2 i3 i5 hX O;go_wp2_with(refine lm iZ rfl rfl (.tmp 100) (.tmp 99) rfl w.heap.size o cb N (G 0).1 (M.out.kp ((NQ _).alloc _)) X (by rw[af.out];exact J) (dm (ats (G 0).1 X) (G 0).2) (.slice V Z j) (.slice U Y f) (.slice xt nt s) rfl rfl ⟨A.out.pub.kp ((NQ _).alloc _),A.out.un.kp ((NQ _).alloc _),z.out.1.kp ((NQ _).alloc _)⟩ D.out.1 D.out.2 z.out.2 ?_;intro w5 o5 g5)
   have K5:=JE (NS (v:=.slice (some ⟨o,0,none⟩) N cb) (P.out.1.alloc _) g5 (λk hk=>by cases hk;exact b1));have O5:=JE o5.nl;clear o5 g5 c0 c1 c2 c3 c4 A D z M P;go_wp2_with fail;go_ret2;exact⟨⟨_,rfl,by rw[HX.out];exact O5.out⟩,K5.out⟩
  | succ m=>
   have y:m<K:=by omega
   obtain⟨g1,o1,rfl,_,aK⟩:=ad.at m y;have h1:=aK m y;rw[R.out m y] at h1;have aV:=JE (R.out m y);have ao:=ai.out m y;have ag:=aB.out m y;have i1:IntKind.i64.wrap ((m:Int)+1 - 1)=(m:Int):=by rw[JI _ (by have:=hT.le;omega)];omega
   have i6:((m:Int)+1 - 1)=(m:Int):=by omega
   have i7:((PT.getD m 0:Nat):Int)<(N:Int):=by omega
   have i8:(m:Int)<(K:Int):=by omega
   have i9:IntKind.i64.wrap ((m:Int) - 1)=(m:Int) - 1:=JI _ (by have:=hT.le;omega);obtain⟨a5,a7,ee,_,_,_,_,C⟩:=ho.form (by omega);rw[E] at ee C;simp only[JR,Ky,Lv] at ee;obtain⟨⟨rfl,_,_⟩,_,rfl⟩:=ee;obtain⟨p,q,hh,d,a1,a2,a3⟩:=C (PT.getD m 0) ao;have c0:=d.kind;have c1:=d.name;have c2:=d.pubC;have c3:=d.unC;have c4:=d.hashC;have A:=JE d.2;have O:=JE d;have D:=JE (JN a1 a2);obtain⟨V,Z,j,rfl⟩:=aA d.2.pub;obtain⟨U,Y,f,rfl⟩:=d.2.un.sl;obtain⟨xh,nh,aY,rfl⟩:=aA d.2.hash;have af:=JE E;have a9:=JE (Q.out m);clear aB Q ai R aj HO aw HK ae aq ho ad an C d a1 a2 a3 am aE aK E;generalize PT.getD m 0=X at *;have i0:((m+1:Nat):Int) - 1=(m:Int):=by omega
   rw[i0];by_cases I:(ats (G (m+1)).1 X).kind=2
   ·have e9:G m=((G (m+1)).1.set X (dm (ats (G (m+1)).1 X) (G (m+1)).2),er ((G (m+1)).1.set X (dm (ats (G (m+1)).1 X) (G (m+1)).2)) (X:Int) (if X<2*i then 1 else 0)):=by rw[ag];exact if_pos I
    have av:(G m).1=(G (m+1)).1.set X (dm (ats (G (m+1)).1 X) (G (m+1)).2):=by rw[e9]
    have aO:(G m).2=er (G m).1 (X:Int) (if X<2*i then 1 else 0):=by rw[av,e9]
    have aX:=JE av;have al:=JE aO;have aU:=JE I;rw[I] at c0;obtain⟨NM,au⟩:∃ NM,(ats (G (m+1)).1 X).name=NM:=⟨_,rfl⟩;have aT:=JE au;rw[au] at c1;clear ag e9 av aO I au;go_wp2_with fail;have bx:=Oa wr 81 #[.int .i64 2,.int .i64 NM,.slice V Z j,.slice U Y f,.slice xt nt s];have a:Hid (Kp wr (wr.alloc (.cells #[.int .i64 2,.int .i64 NM,.slice V Z j,.slice U Y f,.slice xt nt s] 81))):=(NQ _).alloc _;obtain⟨W4,aM⟩:∃ W4,wr.alloc (.cells #[.int .i64 2,.int .i64 NM,.slice V Z j,.slice U Y f,.slice xt nt s] 81)=W4:=⟨_,rfl⟩;rw[aM] at bx a ⊢;obtain⟨d0,d1,d2,d4,d5⟩:_/\_/\_/\_/\_:=⟨bx.cell 0,bx.cell 1,bx.cell 2,bx.cell 3,bx.cell 4⟩;have ax:=M.out.kp a.out;have H:=a.out.cell h1;have F:=ax.there X (by rw[af.out];exact ao);have j0:=(F 0 (by omega)).2;have j1:=(F 1 (by omega)).2;have j2:=(F 2 (by omega)).2;have j3:=(F 3 (by omega)).2;have j4:=(F 4 (by omega)).2;rw[Mj] at j0;obtain⟨q0,q1,q2,q3,q4⟩:_/\_/\_/\_/\_:=⟨a.out.cell c0,a.out.cell c1,a.out.cell c2,a.out.cell c3,a.out.cell c4⟩;have ab:=ax.stored X (by rw[af.out];exact ao) (dm (ats (G (m+1)).1 X) (G (m+1)).2) (.slice V Z j) (.slice U Y f) (.slice xt nt s) ⟨A.out.pub.kp a.out,A.out.un.kp a.out,z.out.1.kp a.out⟩ D.out.1 D.out.2 z.out.2;rw[<-aX.out] at ab;have aH:cj (dm (ats (G (m+1)).1 X) (G (m+1)).2) (.slice V Z j) (.slice U Y f) (.slice xt nt s)=[.int .i64 2,.int .i64 NM,.slice V Z j,.slice U Y f,.slice xt nt s]:=by
     rw[<-aT.out,<-aU.out];rfl
    rw[aH] at ab;have aR:=JE ab;have az:=JE (JN (P.out.1.trans a.out) a.out.size);have aS:=JE (ah.out.kp a.out);clear F ab aH ax aM h1 c0 c1 c2 c3 c4 A O D z M ah aU aT bx TK aX;go_region
    clear d0 d1 d2 d4 d5 H j0 j1 j2 j3 j4 q0 q1 q2 q3 q4;have l:=aR.out;obtain⟨W3,ar⟩:∃ W3,W4.setCells o (X*5) [.int .i64 2,.int .i64 NM,.slice V Z j,.slice U Y f,.slice xt nt s]=W3:=⟨_,rfl⟩;have aL:((((W4.setCell ⟨o,X*5,none⟩ (.int .i64 2)).setCell ⟨o,X*5+1,none⟩ (.int .i64 NM)).setCell ⟨o,X*5+2,none⟩ (.slice V Z j)).setCell ⟨o,X*5+3,none⟩ (.slice U Y f)).setCell ⟨o,X*5+4,none⟩ (.slice xt nt s)=W3:=ar;rw[ar] at l;rw[aL];have r5:=(aS.out.grown9 (v:=.slice (some ⟨o,0,none⟩) N cb) l.2 aC.out).kp (gY W3);have k5:Kp w W3.drew:=(NS (v:=.slice (some ⟨o,0,none⟩) N cb) az.out.1 l.2 (λk hk=>by cases hk;exact b1)).trans (gY W3);have b5:o<W3.drew.heap.size:=by
     have h1:=l.2.size;have h2:=az.out.2;have h3:=(gY W3).size;omega
    have O5:=JE (l.1.kp (gY W3));clear l aR aS az a aL ar;generalize W3.drew=W5 at *;obtain⟨_,_,aP,_,aJ⟩:=r5.at m y;simp only[Ky,Lv,and_true] at aP;obtain⟨rfl,rfl⟩:=aP;have h5:=aJ m y;have K5:=JE k5;have R5:=JE r5;have ak:Hid (∀ u:Int,Calls prog 157 #[.slice (some ⟨o,0,none⟩) N cb,.int .i64 (X:Int),.int .i64 u] W5 λe w'=>(∃ r,e=.returned (.tuple #[r,.int .i64 (gL (G m).1 (X:Int) u)])/\Ow 5 w' W5.heap.size r (er (G m).1 (X:Int) u))/\Kp W5 w'):=λu=>GJ _ _ K (X:Int) u W5 a9.out.1 O5.out.nl
    clear aJ r5 k5;rw[aV.out] at h5;by_cases aG:X<2*i
    ·have aF:(X:Int)<2*(i:Int):=by omega
     have T:Hid ((G m).2=er (G m).1 (X:Int) 1):=by have:=al.out;rw[if_pos aG] at this;exact this
     have B:=JE (ak.out 1);clear ak al;generalize gL (G m).1 (X:Int) 1=AE at *;go_wp2_with fail;refine B.out.mono ?_;rintro _ w6 ⟨⟨r6,rfl,o6⟩,k6⟩;have aD:Hid (aQ (.slice (some ⟨o,0,none⟩) N cb) r6):=λg hg x n c e h0 he=>by
      have h1:o=g:=by cases hg;rfl
      have:=o6.own_ge x.block (by rw[e];rfl);omega
     have O6:=JE o6.rd;have K6:=JE k6;obtain⟨a6,n6,c6,rfl⟩:=aA o6.rd;clear o6 k6 B;go_wp2_with fail;go_roundw
     case rel=>exact⟨m,by omega,by go_num,by rw[T.out];exact O6.out,aD.out,O5.out.kp K6.out,R5.out.kp K6.out,K5.out.trans K6.out,JV b5 K6.out.size⟩
     case measure=>simp[intOf] <;> omega
    ·have aF:¬(X:Int)<2*(i:Int):=by omega
     have T:Hid ((G m).2=er (G m).1 (X:Int) 0):=by have:=al.out;rw[if_neg aG] at this;exact this
     have B:=JE (ak.out 0);clear ak al;generalize gL (G m).1 (X:Int) 0=AE at *;go_wp2_with fail;refine B.out.mono ?_;rintro _ w6 ⟨⟨r6,rfl,o6⟩,k6⟩;have aD:Hid (aQ (.slice (some ⟨o,0,none⟩) N cb) r6):=λg hg x n c e h0 he=>by
      have h1:o=g:=by cases hg;rfl
      have:=o6.own_ge x.block (by rw[e];rfl);omega
     have O6:=JE o6.rd;have K6:=JE k6;obtain⟨a6,n6,c6,rfl⟩:=aA o6.rd;clear o6 k6 B;go_wp2_with fail;go_roundw
     case rel=>exact⟨m,by omega,by go_num,by rw[T.out];exact O6.out,aD.out,O5.out.kp K6.out,R5.out.kp K6.out,K5.out.trans K6.out,JV b5 K6.out.size⟩
     case measure=>simp[intOf] <;> omega
   ·have e9:G m=G (m+1):=by rw[ag];exact if_neg I
    have bc:((ats (G (m+1)).1 X).kind==2)=false:=JL.2 I;have aW:=JE e9;generalize (ats (G (m+1)).1 X).kind=KD at *;generalize (ats (G (m+1)).1 X).name=NM at *;clear ag e9;go_wp2_with fail;go_roundw
    case rel=>exact⟨m,by omega,by go_num,by rw[aW.out];exact z.out.1.kp ((NQ _).alloc _),z.out.2,by rw[aW.out];exact M.out.kp ((NQ _).alloc _),ah.out.kp ((NQ _).alloc _),P.out.1.alloc _,by simp;have:=P.out.2;omega⟩
    case measure=>simp[intOf] <;> omega
theorem GR (aa:Value)(t:List Nod)(K:Nat)(i:Int)(w:World)(b:bl t K)(a:NL w aa t):
  Calls prog 116 #[aa,.int .i64 i] w λe w'=>(∃ r,e=.returned (.tuple #[r,.int .i64 (iO t i)])/\NL w' r (gM t i))/\Kp w w':=by
 by_cases h:bc t i
 ·have d:iO t i=0:=if_pos h
  have c:gM t i=(fh t i.toNat).1.set (2*i.toNat) (dm (ats (fh t i.toNat).1 (2*i.toNat)) (fh t i.toNat).2):=if_pos h;rw[d,c];obtain⟨l,j,g⟩:=h;obtain⟨k,rfl⟩:=Kc l;rw[JX] at *;refine GQ aa t K k w b a ?_ g;have o:=b.len;have n:=bi K;have m:=bE K;unfold lvs at j;omega
 ·have d:iO t i=11:=if_neg h
  have c:gM t i=t:=if_neg h;rw[d,c];refine(GP aa t K i w b a h).mono ?_;rintro e w' ⟨rfl,f⟩;exact⟨⟨aa,rfl,a.kp f⟩,f⟩
theorem GS (aa v:Value)(t:List Nod)(K k:Nat)(pub:List UInt8)(w:World)(l:NL w aa t)(F:Rd w v pub)(i:aD t K)(u:pub.length=32)(d:(ats t (2*k)).kind=1):
  Calls prog 115 #[aa,.int .i64 (k:Int),v] w λe w'=>(∃ r,e=.returned (.tuple #[r,.int .i64 0])/\NO 81 w' w.heap.size r (bk t k pub))/\Kp w w':=by
 obtain⟨V,U,z3⟩:=i.small;have m:=(i.there_iff k).2 d;have C:=JE (λW (s:Kp w W)=>DA aa t (k:Int) W (l.kp s) (by omega));obtain⟨ap,cp,rfl,_,_⟩:=F.shape;have f:=Oe (t:=t) (x:=2*k) (by rw[d];decide);have n:=i.len2;have A:k<2 ^ K:=by omega
 rw[Ke m] at C;have I:=JE (λW (s:Kp w W)=>DB aa t K k W (l.kp s) i.le i.len A);have o:(ig t k).length=t.length:=aD.blankLen k;have HU:Hid ((ig t k).set (2*k) (aN (ats t (2*k)).name pub)=bk t k pub):=rfl;generalize bk t k pub=ad at *;generalize ig t k=BL at *;have i2:IntKind.i64.wrap (2*(k:Int))=((2*k:Nat):Int):=by rw[JI _ (by omega)];omega
 have i3:((2*k:Nat):Int)<(t.length:Int):=by omega
 obtain⟨a,c,rfl,p1,s1⟩:=l.shape;obtain⟨b,D,rfl,_,O⟩:=l.at (2*k) f;obtain⟨p,q,h,M⟩:=O (2*k) f;have T:Hid (∀ W,Kp w W->W.cell? ⟨b,D+2*k*5+1,none⟩=some (.int .i64 (ats t (2*k)).name)):=λW s=>s.cell M.name
 have H:=JE F;obtain⟨N,P⟩:∃ N,t.length=N:=⟨_,rfl⟩;rw[P] at p1 i3 o f V C I ⊢;rw[u] at H ⊢;generalize (ats t (2*k)).name=NM at *;generalize 2*k=K2 at *;clear l F i u m O M P U d n A;go_enter func115,ntmps115;go_wp2_with fail;refine(C.out w (NQ _)).mono ?_;rintro _ _ ⟨rfl,rfl⟩;go_wp2_with fail;refine(I.out w (NQ _)).mono ?_;rintro _ Y ⟨⟨r,rfl,z⟩,j⟩;obtain⟨G,B,rfl,R,b2,b3,b4,_⟩:=z.form (by omega);rw[o] at z ⊢;have c1:=T.out Y j;have y:=JE (H.out.kp j);have J:=JE (H.out.apart (v:=.slice (some ⟨G,0,none⟩) N B) (λg hg=>by cases hg;exact R));have ab:N<=B:=by omega
 have Z:=JE j;clear C I T;go_wp2_with(refine lm iZ rfl rfl (.tmp 34) (.tmp 33) rfl w.heap.size G B N BL z K2 (by omega) (aN NM pub) (.slice ap 32 cp) (.slice none 0 0) (.slice none 0 0) rfl rfl ⟨y.out,RI.nil _,bU _⟩ J.out (NZ _ _ _) (NZ _ _ _) ?_;intro X E Q)
 have L:Kp w X:=NS (v:=.slice (some ⟨G,0,none⟩) N B) j Q (λk A=>by cases A;exact R);rw[HU.out] at E;have S:=JE (JN E L);clear E Q L z j c1 y;go_wp2_with fail;go_ret2;exact⟨⟨_,rfl,S.out.1⟩,S.out.2⟩
theorem yR (p:List St):∀ (l:List Nat) (k x:Nat) (t:List Nod),bL p k (l++[x]) t=(bL p k l t).set x ⟨2,0,(am p (k+l.length)).pub,[],[]⟩
 | [],k,x,t=>rfl
 | y :: l,k,x,t=>by
  show bL p (k+1) (l++[x]) _=(bL p (k+1) l _).set x _
  rw[yR p l (k+1) x,show k+1+l.length=k+(y :: l).length by simp;omega]
theorem yS (p:List St)(l:List Nat)(t:List Nod){j:Nat}(h:j<l.length):bL p 0 (l.take (j+1)) t=(bL p 0 (l.take j) t).set (l.getD j 0) ⟨2,0,(am p j).pub,[],[]⟩:=by
 rw[JZ h,yR,Ki,MS (by omega),Lf,JF,JG h];rfl
theorem yT {p:List St}(c:aD t K)(h:bl t K)(s:(ats t (2*i)).kind=1){pub:List UInt8}(u:pub.length=32)(n:∀ a,a<(aC t i K).length->(am p a).pub.length=32):
  bl (bL p 0 (aC t i K) (bk t i pub)) K:=by
 have q:=Oe (t:=t) (x:=2*i) (by rw[s];decide);have r:=c.len2;have d:i<2 ^ K:=by omega
 have l:=c.updAt d pub;have k:=aD.updLen (t:=t) i pub;have j:∀ x∈aC t i K,x<(bk t i pub).length:=λx m=>by rw[k,c.len];exact eP d (fP m)
 have g:bl (bk t i pub) K:=by
  refine⟨c.le,by rw[k,c.len],λy=>?_,λy b=>?_⟩
  ·rw[l]
   split
   ·have o:=(h.node (2*i)).name
    exact⟨.inr (.inl rfl),o,by show pub.length<=40;omega,JW _,JW _,λi d=>by cases d⟩
   ·split
    ·exact el.blank
    ·exact h.node y
  ·rw[l] at b
   split at b
   ·cases b
   ·split at b
    ·cases b
    ·exact h.par y b
 refine g.over (nR _ _ _ _) λy=>?_
 by_cases b:y∈aC t i K
 ·obtain⟨a,f,rfl⟩:=Ld b
  have e:=sm p (aC t i K) 0 (bk t i pub) (lT t i K) j a f;rw[Lf,JF,JG f] at e;exact .inr ⟨ik (fP b),.inr ⟨_,n a f,e⟩⟩
 ·exact .inl (pN _ _ _ _ _ j b)
theorem GT (aa lv x y:Value)(t:List Nod)(K i:Nat)(p:Pa)(w:World)(hu:NL w aa t)(A:aD t K)(hT:bl t K)(b:(ats t (2*i)).kind=1)(hl:RN w lv (aC t i K))(P:PIn w x y p)(l:p.pub.length=32)
  (hs:p.step.length=(aC t i K).length) (u:∀ a,a<(aC t i K).length->(am p.step a).pub.length=32):
  Calls prog 66 #[aa,.int .i64 (i:Int),lv,.agg #[x,y]] w λe w'=>(∃ r,e=.returned r/\NL w' r (eE t (i:Int) (aC t i K) p))/\Kp w w':=by
 obtain⟨z1,z2,z3⟩:=A.small;have ah:=bP A.le;have Z:(aC t i K).length<=10:=Kd (yM t i K).1 A.le;have d:=(A.there_iff i).2 b;have Q:=Oe (t:=t) (x:=2*i) (by rw[b];decide);have hi:i<2 ^ K:=by omega
 have hE:mF t (i:Int) p.pub=0:=by unfold mF;rw[if_pos l,if_pos d]
 have hV:mG t (i:Int) p.pub=bk t i p.pub:=by unfold mG;rw[if_pos hE,JX]
 have J:=JE (λW (hW:Kp w W) (v:Value) (hv:Rd W v p.pub)=>GS aa v t K i p.pub W (hu.kp hW) hv A l b);have an:=JE (λW (v:Value) (hv:NL W v (bL p.step 0 (aC t i K) (bk t i p.pub)))=>GR v _ K (i:Int) W (yT A hT b l u) hv);have HF:Hid (gM (bL p.step 0 (aC t i K) (bk t i p.pub)) (i:Int)=eE t (i:Int) (aC t i K) p):=by unfold Hid eE;rw[hV]
 have I:(bk t i p.pub).length=t.length:=aD.updLen i p.pub;have o:Hid (∀ j,j<(aC t i K).length->bL p.step 0 ((aC t i K).take (j+1)) (bk t i p.pub)=(bL p.step 0 ((aC t i K).take j) (bk t i p.pub)).set ((aC t i K).getD j 0) ⟨2,0,(am p.step j).pub,[],[]⟩):=λj T=>yS _ _ _ T
 have n:Hid (∀ j,(bL p.step 0 ((aC t i K).take j) (bk t i p.pub)).length=t.length):=λj=>(nR _ _ _ _).trans I
 have m:Hid (∀ j,j<(aC t i K).length->(aC t i K).getD j 0<t.length):=λj T=>by
  have hm:(aC t i K).getD j 0∈aC t i K:=by rw[JF,JG T];exact Ko T
  rw[A.len];exact eP hi (fP hm)
 have ad:Hid (bL p.step 0 ((aC t i K).take 0) (bk t i p.pub)=bk t i p.pub):=rfl;have L:Hid (bL p.step 0 ((aC t i K).take (aC t i K).length) (bk t i p.pub)=bL p.step 0 (aC t i K) (bk t i p.pub)):=by unfold Hid;rw[Kz]
 generalize eE t (i:Int) (aC t i K) p=au at *;generalize bL p.step 0 (aC t i K) (bk t i p.pub)=TE at *;generalize Y:(λj=>bL p.step 0 ((aC t i K).take j) (bk t i p.pub))=TS at *;have C:∀ j,bL p.step 0 ((aC t i K).take j) (bk t i p.pub)=TS j:=λj=>by rw[<-Y]
 simp only[C] at o n ad L;have ai:iO TE (i:Int)=iO TE (i:Int):=rfl;generalize iO TE (i:Int)=LE at *;have HP:=JE P.pub;have ak:=JE P.step;have HL:=JE hl;obtain⟨al,cl,rfl,q1,q2⟩:=hl.shape;obtain⟨a,c,rfl,_,_⟩:=hu.shape;obtain⟨ap,cp,rfl,q3,q4⟩:=P.pub.shape;obtain⟨a6,n6,c6,rfl⟩:=Oc P.step;generalize bk t i p.pub=UT at *;generalize aC t i K=ST at *;obtain⟨M,hM⟩:∃ M,ST.length=M:=⟨_,rfl⟩;obtain⟨N,hN⟩:∃ N,t.length=N:=⟨_,rfl⟩;rw[hM] at hs o m L q1 HL Z ⊢;rw[hN] at n m z1 z3 I J ⊢;rw[l] at *;have ae:=JE hs;clear hu A hT b hl P hs u d Q hi hE hV Y C hM hN z2 ai ah l;go_enter func66,ntmps66;go_wp2_with fail;obtain⟨E,s⟩:∃ E,w.alloc (.cells #[.slice ap 32 cp,.slice a6 n6 c6] 27)=E:=⟨_,rfl⟩;have hb:Bx E w.heap.size 27 #[.slice ap 32 cp,.slice a6 n6 c6]:=by rw[<-s];exact Oa w _ _
 have S:Kp w E:=by rw[<-s];exact(NQ _).alloc _
 have D:=JE (JN hb S);rw[s];clear hb S s;refine(J.out E D.out.2 _ (HP.out.kp D.out.2)).mono ?_;rintro _ w2 ⟨⟨r,rfl,o2⟩,k2⟩;obtain⟨gb,cb,rfl,b1,b2,b3,b4,_⟩:=o2.form (by omega);rw[I] at o2 b3 ⊢;have O2:=JE (JN o2 k2);have ao:=JE (JN b1 b2);have aq:Hid (w.heap.size<=gb):=Kd D.out.2.size b1;clear o2 k2 J b1 b2 b4;go_wp2_with fail;go_loopw[11] (λz wr=>∃ j:Nat,j<=M/\z=.int .i64 (j:Int)/\NO 81 wr E.heap.size (.slice (some ⟨gb,0,none⟩) N cb) (TS j)/\Kp E wr) (λz _=>(M - (intOf z).toNat))
 case atStart=>exact⟨0,JW _,rfl,by rw[ad.out];exact O2.out.1,O2.out.2⟩
 case round=>
  obtain⟨j,T,rfl,ho,R⟩:=hrel;have q:=JE (JN ho R);clear ho R;by_cases h:j<M
  ·obtain⟨gl,ol,rfl,_,U⟩:=(HL.out.kp (D.out.2.trans q.out.2)).at j h
   have d0:=U j h;have i1:IntKind.i64.wrap ((j:Int)+1)=(j:Int)+1:=JI _ (by omega);have i3:(j:Int)<(M:Int):=by omega
   have HX:=JE (m.out j h);have aj:=JE (o.out j h);have af:=JE (n.out j);have hB:=D.out.1.kp q.out.2;have d1:=hB.cell 0;have d2:=hB.cell 1;simp only[JT,JS,JU] at d1 d2;obtain⟨gs,os,cs,pv,qv,e1,_,G⟩:=dl.nodeK (i:=j) ak.out (by rw[ae.out];exact h);rw[ae.out] at e1;simp only[JR] at e1;obtain⟨rfl,rfl,rfl⟩:=e1;have O:=JE (G w (NQ _)).2.2.1;have d3:=(G wr (D.out.2.trans q.out.2)).1;obtain⟨a7,n7,c7,rfl⟩:=aA O.out;have ar:=JE (O.out.apart (v:=.slice (some ⟨gb,0,none⟩) N cb) (λg hg=>by cases hg;exact aq.out));obtain⟨g9,c9,e9,_,_,_,_,V⟩:=q.out.1.form (by rw[af.out];omega);simp only[JR,Ky,Lv,and_true] at e9;obtain⟨rfl,_,rfl⟩:=e9;generalize ST.getD j 0=X at *;have i4:(X:Int)<(N:Int):=by have:=HX.out;omega
   have H:X<(TS j).length:=by rw[af.out];exact HX.out
   obtain⟨p9,u9,h9,f,_⟩:=V X H;obtain⟨j0,j1,j2,j3,j4⟩:_/\_/\_/\_/\_:=⟨f.kind,f.name,f.pubC,f.unC,f.hashC⟩;have d:=q.out.1.there X H;have f0:=(d 0 (by omega)).2;have f1:=(d 1 (by omega)).2;have f2:=(d 2 (by omega)).2;have f3:=(d 3 (by omega)).2;have f4:=(d 4 (by omega)).2;rw[Mj] at f0;have F:=q.out.1.stored X H ⟨2,0,(am p.step j).pub,[],[]⟩ (.slice a7 n7 c7) (.slice none 0 0) (.slice none 0 0) ⟨O.out.kp (D.out.2.trans q.out.2),RI.nil _,bU _⟩ ar.out (NZ _ _ _) (NZ _ _ _);rw[<-aj.out] at F;have ab:=JE F;have ag:=JE (JN ao.out q.out.2);clear U hB G V d F m o n f;go_wp2_with fail;go_region
   clear d0 d1 d2 d3 j0 j1 j2 j3 j4 f0 f1 f2 f3 f4;go_wp2_with fail;have B:=ab.out;go_roundw
   case rel=>exact⟨j+1,by omega,by go_num,B.1.kp (NQ _).drew,(NS (v:=.slice (some ⟨gb,0,none⟩) N cb) ag.out.2 B.2 (λk hk=>by cases hk;exact ag.out.1.1)).drew⟩
   case measure=>simp[intOf];omega
  ·obtain rfl:j=M:=by omega
   have HE:=JE (JN (L.out▸q.out.1) q.out.2);clear m o n;go_wp2_with fail;refine(an.out wr _ HE.out.1.nl).mono ?_;rintro _ w3 ⟨⟨r3,rfl,r4⟩,k3⟩;rw[HF.out] at r4;have R4:=JE (JN r4 ((D.out.2.trans HE.out.2).trans k3));obtain⟨a8,n8,c8,rfl⟩:=r4.sl;clear r4 k3;go_wp2_with fail;go_ret;exact⟨⟨_,rfl,R4.out.1⟩,R4.out.2⟩
