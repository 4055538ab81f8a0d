import Derived.Test.YthmhklmkgkfcpaaGreatDoorV19
import Derived.Deep.AppendLies
set_option linter.all false
set_option maxHeartbeats 8000000
set_option maxRecDepth 100000
namespace Go.Proofs.YthmhklmkgkfcpaaGreatDoor
open Go.Proofs.Tryz Go.RowKit
variable {B K g i k m:Nat}{T e n:TypeId}{Y Z:Nat->Prop}{c d j r v:Value}{cs:Array Value}{l:List UInt8}{t:List Nod}{w w':World}{x:Int}{α:Type}
section
open Go.Maps
theorem infoSd:(prog.info? 90).map (λi=>(i.zero,i.size,i.bytes))=some (some (.agg #[.int .i64 0,.slice none 0 0]),2,32):=by kernel_rfl
theorem infoSe:(prog.info? 92).map (λi=>(i.zero,i.size,i.bytes))=some (some (.agg #[.slice none 0 0,.slice none 0 0]),2,48):=by kernel_rfl
theorem infoSt:(prog.info? 74).map (λi=>(i.zero,i.size,i.bytes))=some (some (.agg #[.slice none 0 0,.slice none 0 0]),2,48):=by kernel_rfl
theorem infoStp:(prog.info? 99).map (λi=>(i.zero,i.size,i.bytes))=some (some (.agg #[.int .i64 0,.slice none 0 0]),2,32):=by kernel_rfl
theorem infoRI:(prog.info? 34).map (λi=>(i.zero,i.size,i.bytes))=some (some (.slice none 0 0),1,24):=by kernel_rfl
theorem infoBy:(prog.info? 24).map (λi=>(i.zero,i.size,i.bytes))=some (some (.slice none 0 0),1,24):=by kernel_rfl
theorem infoN:(prog.info? 3).map (λi=>(i.zero,i.size,i.bytes))=some (some (.int .i64 0),1,8):=by kernel_rfl
theorem sdK:SK prog 23 90 2:=SK.mk' underlying23 infoSd (by decide) rfl
theorem seK:SK prog 72 92 2:=SK.mk' underlying72 infoSe (by decide) rfl
theorem stK:SK prog 25 74 2:=SK.mk' underlying25 infoSt (by decide) rfl
theorem stpK:SK prog 93 99 2:=SK.mk' underlying93 infoStp (by decide) rfl
theorem riK:SK prog 100 34 1:=SK.mk' underlying100 infoRI (by decide) rfl
theorem byK:SK prog 115 24 1:=SK.mk' underlying115 infoBy (by decide) rfl
theorem nK:SK prog 34 3 1:=SK.mk' underlying34 infoN (by decide) rfl
def shN:Sh Nat where
 k:=1
 pos:=by decide
 R:=λZ w vs x=>vs=[.int .i64 (x:Int)]
 len:=λe=>by rw[e];rfl
 one:=λe=>by rw[e];exact rC rfl
 solid:=λe _=>e
 step:=λe _=>e
theorem aH.rn {l:List Nat}(h:aH shN w v l):RN w v l:=by
 obtain⟨a,c,e,q,p,o,n⟩:=h;refine⟨a,c,by rw[Jl];exact e,by rw[Jl];exact q,p,o,λx k i d=>?_⟩;rw[Jl] at d;obtain⟨b,j,f,_,m⟩:=n (by omega);rw[k] at f;cases f;obtain⟨vs,g,rfl⟩:=m i _ (Iy d);have:=g 0 _ rfl;rw[Addr.add_mid];simpa [shN,iv] using this
theorem GZ.anyN {a:Nat->Prop}{t:List Nat}(h:GZ shN e Z w B v t):GZ shN e a w B v t:=h
theorem SE.litZ {S:Sh α}{vs:List Value}{x:α}(e:TypeId)(h:S.R Z w vs x)(c:cs.toList=vs):SE S Z (w.alloc (.cells cs e)) (.slice (some ⟨w.heap.size,0,none⟩) 1 1) [x]:=by
 refine⟨_,1,rfl,IB _,by unfold maxLen;omega,λh=>(by cases h),λ_=>⟨w.heap.size,0,rfl,by simp,λi y a=>?_⟩⟩;have f:i<1:=(Jk.1 a).1;obtain rfl:i=0:=by omega
 cases a;refine⟨vs,λj z b=>?_,S.step h (aj.of_kp ((Kp.refl w).alloc _))⟩;have d:=(Bx.new w e cs).cell j;subst c;rw[show 0+0*S.k+j=j by omega,d,<-Mb];exact b
theorem mX (b:∀ x n c,v=.slice (some x) n c->0<n->x.block<w.heap.size)(a:∀ g,Z g->w.heap.size<=g):bk Z v:=λx n c e f d=>by
 have i:=b x n c e f;have h:=a _ d;omega
theorem dU {C:Nat}(b:∀ g,v.ownBlock=some g->C<=g)(a:∀ g,Z g->g<C):bk Z v:=λx n c e i d=>by
 have h:=b x.block (by rw[e];rfl);have f:=a _ d;omega
theorem GZ.se {S:Sh α}{t:List α}(h:GZ S e Z w B v t):SE S Z w v t:=by
 by_cases o:0<t.length
 ·obtain⟨g,c,rfl,l,d,a,n,m⟩:=h.form o
  refine⟨_,c,rfl,a,n,λh=>(by cases h),λ_=>⟨g,0,rfl,d,λi x k=>?_⟩⟩;rw[JA];obtain⟨vs,j,f⟩:=m i x k;exact⟨vs,j,S.mono f λ_ h=>.inr h⟩
 ·have b:t=[]:=IX (by omega)
  subst b;obtain⟨us,a,_⟩:=h;rcases a.2 with⟨rfl,_⟩|⟨g,cap,cur,rfl,l,d,hn,hm,hs,b⟩
  ·exact SE.nil Z w
  ·exact⟨_,cap,rfl,hn,hm,λh=>(by cases h),λh=>absurd h (by simp)⟩
theorem RZ.kp (h:RZ Z w v l)(k:Kp w w'):RZ Z w' v l:=h.step (aj.of_kp k)
theorem SZ.kp {S:Sh α}{l:List α}(h:SZ S Z w v l)(k:Kp w w'):SZ S Z w' v l:=h.step (aj.of_kp k)
theorem SL.nodeK {l:List Sd}(h:SL w v l)(d:i<l.length):
  ∃ b a c q,v=.slice (some ⟨b,a,none⟩) l.length c/\b<w.heap.size/\∀ W,Kp w W->W.cell? ⟨b,a+i*2,none⟩=some (.int .i64 (aK l i).node)/\W.cell? ⟨b,a+i*2+1,none⟩=some q/\Rd W q (aK l i).seed:=by
 obtain⟨b,a,c,q,e,f,j,g,r⟩:=SL.node h d;exact⟨b,a,c,q,e,f,λW k=>⟨k.cell j,k.cell g,r.kp k⟩⟩
theorem EL.nodeK {l:List Se}(h:EL w v l)(g:i<l.length):
  ∃ b a c p q,v=.slice (some ⟨b,a,none⟩) l.length c/\b<w.heap.size/\∀ W,Kp w W->W.cell? ⟨b,a+i*2,none⟩=some p/\W.cell? ⟨b,a+i*2+1,none⟩=some q/\Rd W p (aM l i).half/\Rd W q (aM l i).b:=by
 obtain⟨b,a,c,p,q,e,j,n,m,f,d⟩:=EL.node h g;exact⟨b,a,c,p,q,e,j,λW k=>⟨k.cell n,k.cell m,f.kp k,d.kp k⟩⟩
theorem eG.nodeK {l:List St}(h:eG w v l)(g:i<l.length):
  ∃ b a c p q,v=.slice (some ⟨b,a,none⟩) l.length c/\b<w.heap.size/\∀ W,Kp w W->W.cell? ⟨b,a+i*2,none⟩=some p/\W.cell? ⟨b,a+i*2+1,none⟩=some q/\Rd W p (am l i).pub/\EL W q (am l i).fors:=by
 obtain⟨b,a,c,p,q,e,j,n,m,f,d⟩:=eG.node h g;exact⟨b,a,c,p,q,e,j,λW k=>⟨k.cell n,k.cell m,f.kp k,aH.kp d k⟩⟩
end
theorem pm (aa:Value)(t:List Nod)(i:Int)(w:World)(f:NL w aa t)(m:t.length<=100000):
  Calls prog 25 #[aa,.int .i64 i] w λe w'=>e=.returned (.bool (decide (bd t i)))/\w=w':=by
 have n:=Lib.hid (jp aa t w f m);have l:=jN (t:=t) m;obtain⟨a,c,rfl,p1,A⟩:=f.shape;by_cases s:0<=i
 ·obtain⟨k,rfl⟩:=IR s
  by_cases y:k<lvs t
  ·have d:=pd y
   obtain⟨b,u,rfl,x,r⟩:=f.at (2*k) d;obtain⟨p,q,h,o⟩:=r (2*k) d;have D:=o.kind;have C:IntKind.i64.wrap (2*(k:Int))=((2*k:Nat):Int):=by rw[IA _ (by omega)];omega
   have B:((2*k:Nat):Int)<(t.length:Int):=by omega
   have v:(k:Int)<((lvs t:Nat):Int):=by omega
   have e:decide (bd t (k:Int))=decide ((ats t (2*k)).kind=1):=decide_eq_decide.2 ⟨λh=>by have:=h.2.2;rwa [IM] at this,λh=>⟨by omega,by omega,by rw[IM];exact h⟩⟩;rw[e];generalize (ats t (2*k)).kind=X at *;generalize lvs t=L at *;generalize t.length=N at *;generalize 2*k=E at *;clear r o f e x d;go_enter func25,ntmps25;go_wp2_with fail;refine n.out.mono ?_;rintro _ _ ⟨rfl,rfl⟩;by_cases j:X=1
   ·subst j
    go_wp2_with fail;go_ret;exact⟨rfl,rfl⟩
   ·have g:(X==1)=false:=ID.2 j
    have z:=Lib.hid (IS j);go_wp2_with fail;go_ret;exact⟨by rw[z.out] <;> first|rfl|simp[g],rfl⟩
  ·have e:decide (bd t (k:Int))=false:=IS λh=>by have:=h.2.1;omega
   have v:¬(k:Int)<((lvs t:Nat):Int):=by omega
   rw[e];generalize lvs t=L at *;generalize t.length=N at *;clear f e;go_enter func25,ntmps25;go_wp2_with fail;refine n.out.mono ?_;rintro _ _ ⟨rfl,rfl⟩;go_wp2_with fail;go_ret;exact⟨rfl,rfl⟩
 ·have e:decide (bd t i)=false:=IS λh=>s h.1
  rw[e];generalize t.length=N at *;clear f e n l m;go_enter func25,ntmps25;go_wp2_with fail;go_ret;exact⟨rfl,rfl⟩
theorem DM {own:List Sd}(b:k<own.length)(h:(aK own k).node=x)(a:∀ j,j<k->(aK own j).node≠x):ba own x=(aK own k).seed:=by
 induction own generalizing k with
 | nil=>exact absurd b (Kd _)
 | cons s l ih=>
  unfold ba
  cases k with
  | zero=>rw[if_pos (show s.node=x from h)];rfl
  | succ k=>
   rw[if_neg (show ¬s.node=x from a 0 (Nat.succ_pos _))]
   exact ih (by simpa using b) h λj c=>a (j+1) (Nat.succ_lt_succ c)
theorem DN {own:List Sd}(a:∀ j,j<own.length->(aK own j).node≠x):ba own x=[]:=by
 induction own with
 | nil=>rfl
 | cons s l ih=>
  unfold ba
  rw[if_neg (show ¬s.node=x from a 0 (by simp))]
  exact ih λj b=>a (j+1) (by simpa using b)
theorem SL.shape {l:List Sd}(h:SL w v l):∃ a c,v=.slice a l.length c/\l.length<=c/\c<=maxLen:=SE.shape h
theorem DO (aa:Value)(own:List Sd)(x:Int)(w:World)(p:SL w aa own)(H:own.length<=100000):
  Calls prog 51 #[aa,.int .i64 x] w λe w'=>(∃ r,e=.returned r/\Rd w r (ba own x))/\w=w':=by
 obtain⟨a,c,rfl,p1,L⟩:=p.shape;have D:=Lib.hid p;have o:Hid (∀ k,k<own.length->(aK own k).node=x->(∀ j,j<k->(aK own j).node≠x)->ba own x=(aK own k).seed):=λk B h G=>DM B h G
 have y:Hid ((∀ j,j<own.length->(aK own j).node≠x)->ba own x=[]):=λh=>DN h
 generalize ba own x=V at *;obtain⟨N,u⟩:∃ N,own.length=N:=⟨_,rfl⟩;rw[u] at p1 D o y H ⊢;have n:=Lib.hid u;clear p u;go_enter func51,ntmps51;go_wp2_with fail;go_loop [5] (λi=>∃ k:Nat,k<=N/\i=.int .i64 (k:Int)/\(∀ j,j<k->(aK own j).node≠x)) (λi=>(N - (intOf i).toNat))
 case atStart=>exact⟨0,IO _,rfl,λt h=>by omega⟩
 case round=>
  obtain⟨k,B,rfl,d⟩:=hrel;by_cases l:k<N
  ·obtain⟨b,F,R,q,e,J,T,S,A⟩:=SL.node (i:=k) D.out (by rw[n.out];exact l)
   rw[n.out] at e;simp only[IG] at e;obtain⟨rfl,_,rfl⟩:=e;have P:IntKind.i64.wrap ((k:Int)+1)=(k:Int)+1:=IA _ (by omega);have O:(k:Int)<(N:Int):=by omega
   have g:=Lib.hid (o.out k l);have f:=Lib.hid d;have E:=Lib.hid A;clear o d A J;obtain⟨U,M,Q,rfl⟩:=aA E.out;by_cases m:(aK own k).node=x
   ·have C:=g.out m f.out
    have z:=Lib.hid C;have s:((aK own k).node==x)=true:=by rw[m];exact beq_self_eq_true _
    generalize (aK own k).node=X at *;clear g f C;subst m;go_wp2_with fail;go_ret;exact⟨⟨_,rfl,by rw[z.out];exact E.out⟩,rfl⟩
   ·have K:Hid (∀ j,j<k+1->(aK own j).node≠x):=λj I=>by
     rcases Jc (Jn.1 I) with v|v
     ·exact f.out j v
     ·rw[v];exact m
    have s:((aK own k).node==x)=false:=ID.2 m;generalize (aK own k).node=X at *;clear g f;go_wp2_with fail;go_round
    case rel=>exact⟨k+1,by omega,by go_num,K.out⟩
    case measure=>simp[intOf];omega
  ·obtain rfl:k=N:=by omega
   have z:=Lib.hid (y.out d);clear y d o;go_wp2_with fail;go_ret;exact⟨⟨_,rfl,by rw[z.out];exact cQ _⟩,rfl⟩
theorem vT (h:m<K):(cC K 0 i).getD m 0=nd m (sq (i / 2 ^ m)):=by
 unfold cC;rw[Iw,Jt,Lc (by omega)];simp
theorem rD (h:m<K):(aC K 0 i).getD m 0=nd (m+1) (i / 2 ^ (m+1)):=by
 unfold aC;rw[Iw,Jt,Lc (by omega)];simp[LA]
theorem kZ (K i:Nat):(aC K 0 i).length=K:=by unfold aC;simp
theorem vU (K i:Nat):(cC K 0 i).length=K:=by unfold cC;simp
theorem DP (h:(bX t i m).length=0):aw t i (m+1)=aw t i m/\aT t i (m+1)=aT t i m:=by
 unfold aw aT;rw[show ixS t i (m+1)=ixS t i m by rw[ixS];rw[if_pos h]];exact⟨rfl,rfl⟩
theorem DQ (h:(bX t i m).length≠0):aw t i (m+1)=aw t i m++[nd (m+1) (i / 2 ^ (m+1))]/\aT t i (m+1)=aT t i m++[bX t i m]:=by
 unfold aw aT;rw[show ixS t i (m+1)=ixS t i m++[m] by rw[ixS];rw[if_neg h],JZ,JZ];exact⟨rfl,rfl⟩
theorem DS (t:List Nod)(i m:Nat):(aw t i m).length<=m/\(aT t i m).length<=m:=by
 have:=dR t i m;have:=jm t i m;omega
structure Two (e1 e2:TypeId)(w:World)(B:Nat)(v1 v2:Value)(l1:List Nat)(l2:List (List Int)):Prop where
 mk ::
 a:GZ shN e1 noB w B v1 l1
 b:GZ js e2 (λg=>some g=v1.ownBlock) w B v2 l2
 ne:∀ g,v1.ownBlock=some g->v2.ownBlock≠some g
theorem Two.kp {i g:TypeId}{f:List Nat}{e:List (List Int)}(h:Two i g w B d c f e)(k:Kp w w'):Two i g w' B d c f e:=⟨h.a.kp k,h.b.kp k,h.ne⟩
theorem Two.nil (b a:TypeId)(w:World)(B:Nat):Two b a w B (.slice none 0 0) (.slice none 0 0) [] []:=⟨GZ.nil _ _ _,GZ.nil _ _ _,λg h=>by cases h⟩
theorem Two.one {t:TypeId}{i f:Value}{u m:List Nat}{l:List (List Int)}(h:Two t n w B i j u l)(y:GZ shN t noB w' B f m)(a:w.grownBy w' i.ownBlock)(d:f.ownBlock=i.ownBlock\/f.ownBlock=some w.heap.size):Two t n w' B f j m l:=by
 have x:GZ js n (λg=>some g=i.ownBlock) w' B j l:=h.b.step (Y:=λg=>some g=i.ownBlock) ⟨a.os,a.tape,a.output,a.size,λk p o=>a.block k p o⟩ (λg a=>.inl a) (λg a q=>h.ne g q.symm a);have s:GZ js n (λg=>some g=i.ownBlock\/w.heap.size<=g) w B j l:=h.b.solidly λg a=>a.elim (λh=>.inr (.inl h)) λh=>.inr (.inr λv=>by have:=v.lt;omega)
 have r:GZ js n (λg=>some g=i.ownBlock\/w.heap.size<=g) w' B j l:=s.step (Y:=λg=>some g=i.ownBlock) ⟨a.os,a.tape,a.output,a.size,λk p o=>a.block k p o⟩ (λg a=>.inl (.inl a)) (λg a q=>h.ne g q.symm a);refine⟨y,?_,λg c e=>?_⟩
 ·rcases d with d|d
  ·rw[d];exact x
  ·refine r.solidly λg c=>.inr (.inl (.inr ?_))
   rw[d] at c;cases c;exact IB _
 ·rcases d with d|d
  ·exact h.ne g (d▸c) e
  ·rw[d] at c
   cases c;have:=(h.b.lt _ e).2;omega
theorem Two.two {o:TypeId}{l b:Value}{m:List Nat}{p f:List (List Int)}(h:Two o n w B l d m p)(t:GZ js n (λg=>some g=l.ownBlock) w' B b f)(c:w.grownBy w' d.ownBlock)(i:b.ownBlock=d.ownBlock\/b.ownBlock=some w.heap.size):Two o n w' B l b m f:=by
 refine⟨?_,t,λg j e=>?_⟩
 ·have u:GZ shN o (λg=>some g=d.ownBlock) w B l m:=h.a.anyN
  exact(u.step (Y:=λg=>some g=d.ownBlock) ⟨c.os,c.tape,c.output,c.size,λk r q=>c.block k r q⟩ (λg c=>.inl c) (λg c s=>h.ne g c s.symm)).anyN
 ·rcases i with i|i
  ·exact h.ne g j (i▸e)
  ·rw[i] at e
   cases e;have:=(h.a.lt _ j).2;omega
theorem DT {A z:TypeId}{wr i s:World}{t l:Value}{v:List Nat}{u:List (List Int)}{q:List Int}{o:Obj}(m:Two A z wr B j t v u)(p:OI e i wr.heap.size r q)(f:(i.alloc o).grownBy s j.ownBlock)
  (h:l.ownBlock=j.ownBlock\/l.ownBlock=some (i.alloc o).heap.size):RI s r q/\bk (λg=>some g=t.ownBlock\/some g=l.ownBlock) r:=by
 have y:RI (i.alloc o) r q:=p.ri.kp ((Kp.refl _).alloc _);refine⟨y.stepF (Y:=λg=>some g=j.ownBlock) ⟨f.os,f.tape,f.output,f.size,λk d w=>f.block k d w⟩ (dU (C:=wr.heap.size) (λg f=>(p.lt g f).1) λg f=>(m.a.lt g f.symm).2),λx n c e E d=>?_⟩;have D:=p.lt x.block (by rw[e];rfl);rcases d with d|d
 ·have:=(m.b.lt _ d.symm).2
  omega
 ·rcases h with h|h
  ·have:=(m.a.lt _ (h▸d.symm)).2
   omega
  ·rw[h] at d
   simp only[Jo,IQ] at d;omega
theorem DU (aa:Value)(t:List Nod)(K i:Nat)(w:World)(Q:NL w aa t)(n:az t K)(hi:i<2 ^ K):
  Calls prog 41 #[aa,.int .i64 (i:Int)] w λe w'=>(∃ a b,e=.returned (.tuple #[a,b])/\RN w' a (aw t i K)/\aH js w' b (aT t i K))/\Kp w w':=by
 obtain⟨z1,z2,z3⟩:=n.small;have hp:=bY n.le;have al:=n.le;have HL:=Lib.hid (jp aa t w Q (by omega));rw[n.lv] at HL;have HP:=Lib.hid (λW=>ra K 0 i W n.le (IO _) (by simpa using hi));have HC:=Lib.hid (λW=>Cu K 0 i W n.le (IO _) (by simpa using hi));have j:=Lib.hid (fun(m:Nat) W (hW:Kp w W)=>DB aa t K ((nd m (sq (i / 2 ^ m)):Nat):Int) W (Q.kp hW) n);rw[ep] at HP HC;have A:=Lib.hid (λm (h:m<K)=>vT (i:=i) h);have v:=Lib.hid (λm (h:m<K)=>rD (i:=i) h);have ai:=Lib.hid (kZ K i);have ak:=Lib.hid (vU K i);have s:=Lib.hid (λm=>DP (t:=t) (i:=i) (m:=m));have q:=Lib.hid (λm=>DQ (t:=t) (i:=i) (m:=m));have u:=Lib.hid (λm=>DS t i m);have HW:Hid (∀ m,gi t ((nd m (sq (i / 2 ^ m)):Nat):Int)=bX t i m):=λm=>rfl
 have i2:IntKind.i64.wrap (2*(i:Int))=((2*i:Nat):Int):=by rw[IA _ (by omega)];omega
 generalize aC K 0 i=PT at *;generalize cC K 0 i=CT at *;have H:Hid (aw t i 0=[]/\aT t i 0=[]):=⟨rfl,rfl⟩;generalize ae:aw t i=ST at *;generalize ab:aT t i=U at *;generalize ad:bX t i=WF at *;generalize af:2 ^ K=L at *;obtain⟨a,c,rfl,p1,s1⟩:=Q.shape;obtain⟨N,hN⟩:∃ N,t.length=N:=⟨_,rfl⟩;rw[hN] at HL j p1 z1 ⊢;generalize ag:2*i=I2 at *;clear Q n hi af ae ab ad z2 z3 hN ag;go_enter func41,ntmps41;go_wp2_with fail;refine HL.out.mono ?_;rintro _ _ ⟨rfl,rfl⟩;go_wp2_with fail;refine(HP.out w).mono ?_;rintro _ w1 ⟨⟨pv,rfl,o1⟩,k1⟩;have O:=o1.rn;obtain⟨ap,cp,e1,p2,s2⟩:=O.shape;subst e1;rw[ai.out] at O p2 ⊢;have R1:=Lib.hid O;have K1:=Lib.hid k1;clear o1 O k1 HP;go_wp2_with fail;refine(HC.out w1).mono ?_;rintro _ w2 ⟨⟨cv,rfl,M⟩,k2⟩;obtain⟨ac,cc,e2,p3,s3⟩:=M.shape;subst e2;rw[ak.out] at M p3 ⊢;have R2:=Lib.hid (IC (R1.out.kp k2) (IC M (K1.out.trans k2)));clear M k2 HC R1 K1 HL;go_wp2_with fail;go_loopw[11,12,13] (λx y z wr=>∃ m:Nat,m<=K/\z=.int .i64 (m:Int)/\Two 3 34 wr w2.heap.size x y (ST m) (U m)/\Kp w2 wr) (λx y z _=>(K - (intOf z).toNat))
 case atStart=>exact⟨0,IO _,rfl,by rw[H.out.1,H.out.2];exact Two.nil _ _ _ _,Kp.refl _⟩
 case round=>
  obtain⟨m,hm,rfl,ht,E⟩:=hrel;have f:=Lib.hid (IC ht E);clear ht E;by_cases d:m<K
  ·obtain⟨gp,op,rfl,_,F⟩:=(R2.out.1.kp f.out.2).at m d
   obtain⟨gc,oc,rfl,_,G⟩:=(R2.out.2.1.kp f.out.2).at m d;have R:=F m d;have c2:=G m d;rw[v.out m d] at R;rw[A.out m d] at c2;have i1:IntKind.i64.wrap ((m:Int)+1)=(m:Int)+1:=IA _ (by omega);have i3:(m:Int)<(K:Int):=by omega
   have HR:=Lib.hid (j.out m wr (R2.out.2.2.trans f.out.2));rw[HW.out m] at HR;have aj:=Lib.hid (u.out m);have J:=Lib.hid (s.out m);have I:=Lib.hid (q.out m);have B:Hid (∀ W,Kp wr W->W.cell? ⟨gp,op+m,none⟩=some (.int .i64 ((nd (m+1) (i / 2 ^ (m+1)):Nat):Int))):=λW hW=>hW.cell R
   generalize nd (m+1) (i / 2 ^ (m+1))=X at *;generalize nd m (sq (i / 2 ^ m))=Y at *;clear F G j A v s q u HW;go_wp2_with fail;refine HR.out.mono ?_;rintro _ w3 ⟨⟨r,rfl,P⟩,C⟩;have O3:=Lib.hid P;have K3:=Lib.hid C;have V:=Lib.hid (f.out.1.kp C);have KW:=Lib.hid (f.out.2.trans C);have c3:=B.out w3 C;have p:=P.ri;obtain⟨ar,cr,e3,p4,s4⟩:=p.shape;subst e3;generalize WF m=T at *;by_cases h0:T.length=0
   ·have ah:¬(0:Int)<(T.length:Int):=by omega
    have l:=Lib.hid (J.out h0);clear P C p HR R c2 B I;go_wp2_with fail;go_roundw
    case rel=>exact⟨m+1,by omega,by go_num,by rw[l.out.1,l.out.2];exact V.out,KW.out⟩
    case measure=>simp[intOf];omega
   ·have ah:(0:Int)<(T.length:Int):=by omega
    have l:=Lib.hid (I.out h0);clear P C p HR R c2 B J h0;have D:(ST m).length+1<=1000000/\(U m).length+1<=1000000:=by have:=aj.out;omega
    have HB:Hid (w2.heap.size<=w3.heap.size):=KW.out.size;go_wp2_with(first
     | (at_builtin;refine gQ (S:=shN) (Z:=noB) (o:=⟨some 52,_,_,_,_,_⟩) nK rfl _ _ rfl w2.heap.size _ (ST m) rfl (V.out.a.kp ((Kp.refl _).alloc _)) _ [X] rfl (SE.litZ (S:=shN) 3 rfl rfl) (by exact D.1) (IU HB.out (by simp)) ?_;intro v4 w4 o4 g4 q4;have t4:Two 3 34 w4 w2.heap.size v4 _ (ST m++[X]) (U m):=Two.one (V.out.kp ((Kp.refl _).alloc _)) o4 g4 q4;have k4:Kp w2 w4:=Kp.grown (KW.out.alloc _) g4 (λk hk=>(V.out.a.lt k hk).1);have R4:=Lib.hid (DT f.out.1 O3.out g4 q4);have T4:=Lib.hid t4;have K4:=Lib.hid k4)
     | (at_builtin;refine gQ (S:=js) (Z:=λg=>some g=v4.ownBlock) (o:=⟨some 56,_,_,_,_,_⟩) riK rfl _ _ rfl w2.heap.size _ (U m) rfl (T4.out.b.kp ((Kp.refl _).alloc _)) _ [T] rfl (SE.litZ (S:=js) 34 ⟨_,rfl,R4.out.1,R4.out.2⟩ rfl) (by exact D.2) (IU K4.out.size (by simp)) ?_;intro v5 w5 o5 g5 q5;have T5:=Lib.hid (Two.two (T4.out.kp ((Kp.refl _).alloc _)) o5 g5 q5);have K5:Hid (Kp w2 w5):=Kp.grown (K4.out.alloc _) g5 (λk hk=>(T4.out.b.lt k hk).1)))
    go_roundw
    case rel=>exact⟨m+1,by omega,by go_num,by rw[l.out.1,l.out.2];exact T5.out,K5.out⟩
    case measure=>simp[intOf];omega
  ·obtain rfl:m=K:=by omega
   have h1:¬(m:Int)<(m:Int):=by omega
   have l:=Lib.hid (IC f.out.1.a.gl.rn (IC f.out.1.b.gl (R2.out.2.2.trans f.out.2)));clear j A v s q u HW;go_wp2_with fail;go_ret2;exact⟨⟨_,_,rfl,l.out.1,l.out.2.1⟩,l.out.2.2⟩
def Sly (w:World)(g:Nat):Prop:=∃ (T:TypeId) (cs:Array Value),Bx w g T cs/\∀ (j:Nat) (z:Value),cs[j]?=some z->∃ a n c,z=Value.slice a n c
theorem xQ {s r q p o:Option Addr}{f e d c b n l:Nat}(h:Bx w g T #[.slice s f n,.slice r e m,.slice q d l,.slice p c k,.slice o b i]):Sly w g:=
 ⟨T,_,h,λj z a=>by
  match j with
  | 0=>cases a;exact⟨_,_,_,rfl⟩
  | 1=>cases a;exact⟨_,_,_,rfl⟩
  | 2=>cases a;exact⟨_,_,_,rfl⟩
  | 3=>cases a;exact⟨_,_,_,rfl⟩
  | 4=>cases a;exact⟨_,_,_,rfl⟩
  | j+5=>simp at a⟩
theorem Sly.no (h:Sly w g){x:Addr}{k:IntKind}{n:Int}(i:x.block=g)(b:w.cell? x=some (.int k n)):False:=by
 obtain⟨T,cs,j,f⟩:=h;subst i;unfold World.cell? at b;have d:w.heap[x.block]?=some (.cells cs T (0,0)):=j;rw[d] at b;dsimp only at b
 split at b
 ·cases b
 ·obtain⟨a,n,c,e⟩:=f _ _ b
  cases e
theorem Rd.sly (h:Rd w v l)(b:Sly w g):bk (λk=>k=g) v:=λx n c e i d=>by
 obtain⟨q,p,a,o,m,j,f⟩:=h;rw[e] at a;simp only[IG] at a;obtain⟨rfl,rfl,rfl⟩:=a;exact b.no (by rw[eN];exact d) (f x rfl 0 i)
theorem RI.sly {l:List Int}(h:RI w v l)(d:Sly w g):bk (λk=>k=g) v:=λx n c e j f=>by
 obtain⟨r,q,a,p,o,m,i⟩:=h;rw[e] at a;simp only[IG] at a;obtain⟨rfl,rfl,rfl⟩:=a;have b:=i x rfl 0 j;rw[List.getElem_map] at b;exact d.no (by rw[eN];exact f) b
theorem NL.sly (h:NL w v t)(m:Sly w g)(f:aj (λk=>k=g) w w'):NL w' v t:=by
 obtain⟨a,c,e,F,E,D,C⟩:=h;refine⟨a,c,e,F,E,D,λy=>?_⟩;obtain⟨b,l,B,A,s⟩:=C y;obtain⟨H,u0,G,o⟩:=s 0 y;have n:b≠g:=λe=>m.no (x:=⟨b,l+0*5,none⟩) e o.kind
 refine⟨b,l,B,II A f.size,λi r=>?_⟩;obtain⟨p,u,q,d⟩:=s i r;exact⟨p,u,q,λj v z=>f.cell (d.1 j v z) n,d.2.pub.stepF f (d.2.pub.sly m),d.2.un.stepF f (d.2.un.sly m),d.2.hash.stepF f (d.2.hash.sly m)⟩
theorem pF {s p o n:Value}(m:Bx w g T #[s,r,p,o,n])(f d c b a:Value):
  Bx (((((w.setCell ⟨g,0,none⟩ f).setCell ⟨g,1,none⟩ d).setCell ⟨g,2,none⟩ c).setCell ⟨g,3,none⟩ b).setCell ⟨g,4,none⟩ a) g T #[f,d,c,b,a]
  /\ aj (λk=>k=g) w (((((w.setCell ⟨g,0,none⟩ f).setCell ⟨g,1,none⟩ d).setCell ⟨g,2,none⟩ c).setCell ⟨g,3,none⟩ b).setCell ⟨g,4,none⟩ a)
  /\ ∀ w0,Kp w0 w->w0.heap.size<=g->Kp w0 (((((w.setCell ⟨g,0,none⟩ f).setCell ⟨g,1,none⟩ d).setCell ⟨g,2,none⟩ c).setCell ⟨g,3,none⟩ b).setCell ⟨g,4,none⟩ a):=by
 have h:=fP w g 0 [f,d,c,b,a] 0;exact⟨m.fill #[f,d,c,b,a] rfl,⟨h.os,h.tape,h.output,h.size,λq i j=>h.block q i λe=>j (by cases e;rfl)⟩,λw0 k l=>k.setCells l [f,d,c,b,a] 0⟩
section
open Go.Maps
section
variable {P : Program} {k : TypeId} {w w' : World} {m n : Nat} {S : Sd -> Prop}
variable {ops : Array Oper} {o : Oper} {a : Act} {K' : Act -> World -> Prop} {Q : Exit -> Act -> World -> Prop} {e : TypeId} {E : Prop}
theorem yr (t:TypeId)(K:Keyed P k)(o:P.underlying t=some (.map k e))(h:KM P k w m n S)(q:n<maxLen)(s:Sd)(v:Value)(b:keyOf P k (.int .i64 s.node)=some (.int .i64 s.node))(p:fX w v s):
  ∃ w',(Instr.mapUpdate t (.map (some m)) (.int .i64 s.node) v).run P w=.ok () w'/\KM P k w' m (n+1) (λy=>y=s\/(S y/\y.node≠s.node))/\w.grownBy w' (some m):=by
 obtain⟨⟨D,d,j,i⟩,g⟩:=h;have c:=(KM.mk ⟨D,d,j,i⟩ g:KM P k w m n S).nosolid;obtain⟨w',a,l,f⟩:=d.update K o q b (show dT v=some (.held v,[]) from rfl);exact⟨w',a,KM.put g d.isMap j i (Cs.grown f c) p l,f⟩
theorem sm (t:TypeId)(K:Keyed P k)(g:P.underlying t=some (.map k e)){z:Value}(d:(zeroValue e).run P w=.ok z w)(h:KM P k w m n S)(s:Sd)(i:S s)(b:keyOf P k (.int .i64 s.node)=some (.int .i64 s.node)):
  ∃ q,(Instr.lookup t (.map (some m)) (.int .i64 s.node) false).run P w=.ok (sdV s.node q) w/\Rd w q s.seed:=by
 obtain⟨⟨D,l,A,j⟩,y⟩:=h;obtain⟨v,r,q,rfl,p⟩:=j s i;obtain⟨c,u,a,f⟩:=l.lookup K g d (R:=dT) (zd:=.held z) (zp:=[]) rfl b;have o:DataW.held c=.held (sdV s.node q):=by
  have:=congrArg (λx=>x.map Prod.fst) f;simpa [dT,r] using this
 cases o;exact⟨q,a,p⟩
end
def bS (w:World)(g:Nat):Prop:=∀ (x:Addr) (n:Int),x.block=g->w.cell? x≠some (.int .u8 n)
theorem bS.map (h:¬bO w g):bS w g:=λx n e a=>h (e▸bO.of_cell a)
theorem bS.box (h:Bx w g T cs)(c:∀ (j:Nat) (z:Value),cs[j]?=some z->∀ n,z≠.int .u8 n):bS w g:=λx n e a=>by
 subst e;unfold World.cell? at a;have b:w.heap[x.block]?=some (.cells cs T (0,0)):=h;rw[b] at a;dsimp only at a
 split at a
 ·cases a
 ·exact c _ _ a n rfl
theorem Rd.free8 (h:Rd w v l)(b:bS w g):bk (λk=>k=g) v:=λx n c e i d=>by
 obtain⟨q,p,a,o,m,j,f⟩:=h;rw[e] at a;simp only[IG] at a;obtain⟨rfl,rfl,rfl⟩:=a;exact b _ _ (by rw[eN];exact d) (f x rfl 0 i)
theorem Rd.step8 (h:Rd w v l)(a:aj Y w w')(d:∀ g,Y g->bS w g):Rd w' v l:=
 h.stepF a λx n c e f b=>h.free8 (d _ b) x n c e f rfl
theorem aH.bytesAt {l:List (List UInt8)}(h:aH fH w v l)(m:∀ g,Y g->bS w g)(k:bk Y v)(j:i<l.length):
  ∃ b a c q,v=.slice (some ⟨b,a,none⟩) l.length c/\(∀ x n p,q=.slice (some x) n p->0<n->x.block<w.heap.size)/\∀ W,aj Y w W->W.cell? ⟨b,a+i,none⟩=some q/\Rd W q (jR l i):=by
 obtain⟨b,a,c,q,e,s,o,r⟩:=aH.bs h j;exact⟨b,a,c,q,e,r.inside,λW d=>⟨d.cell o (λf=>k ⟨b,a,none⟩ l.length c e (by omega) f),r.step8 d m⟩⟩
structure bM (P:Program)(k:TypeId)(Z:Nat->Prop)(w:World)(m n:Nat)(S:Sd->Prop):Prop where
 mk ::
 ex:∃ D,w.ownsMap P k dT m n D/\(∀ x:Int,Maps.has D (.int .i64 x)=true↔∃ s,S s/\s.node=x)/\∀ s,S s->∃ q,(∀ zd,D.atKey (.int .i64 s.node) zd=.held (sdV s.node q))/\RZ Z w q s.seed
 one:∀ s s',S s->S s'->s.node=s'.node->s=s'
section
variable {P : Program} {k : TypeId} {Z : Nat -> Prop} {w w' : World} {m n : Nat} {S : Sd -> Prop}
theorem bM.km (h:bM P k Z w m n S):KM P k w m n S:=by
 obtain⟨⟨D,g,f,e⟩,d⟩:=h;refine⟨⟨D,g,f,λs c=>?_⟩,d⟩;obtain⟨q,a,b⟩:=e s c;exact⟨_,a,q,rfl,b.1⟩
theorem KM.kz (h:KM P k w m n S):bM P k (λg=>w.heap.size<=g) w m n S:=by
 obtain⟨⟨D,j,i,f⟩,d⟩:=h;refine⟨⟨D,j,i,λs b=>?_⟩,d⟩;obtain⟨v,a,q,rfl,r⟩:=f s b;exact⟨q,a,r,λx n c e l o=>by have:=r.inside x n c e l;omega⟩
theorem bM.mono {b:Nat->Prop}(h:bM P k Z w m n S)(c:∀ g,b g->Z g):bM P k b w m n S:=by
 obtain⟨⟨D,j,i,f⟩,e⟩:=h;refine⟨⟨D,j,i,λs d=>?_⟩,e⟩;obtain⟨q,a,r⟩:=f s d;exact⟨q,a,r.mono c⟩
theorem bM.congr (h:bM P k Z w m n S){S':Sd->Prop}(a:∀ s,S' s↔S s):bM P k Z w m n S':=by
 have:S'=S:=funext λs=>propext (a s)
 rw[this];exact h
theorem bM.olds (h:bM P k Z w m n S):bM P k (λg=>Z g\/w.heap.size<=g) w m n S:=by
 obtain⟨⟨D,i,f,e⟩,d⟩:=h;refine⟨⟨D,i,f,λs b=>?_⟩,d⟩;obtain⟨q,a,r⟩:=e s b;exact⟨q,a,r.solid λg c=>c.imp id λc b=>by have:=b.lt;omega⟩
theorem bM.step (h:bM P k Z w m n S)(d:aj Y w w')(o:∀ g,Y g->Z g\/bS w g)(i:¬Y m):bM P k Z w' m n S:=by
 have j:=h.km.lt;obtain⟨⟨D,⟨A,c,z,t⟩,y,v⟩,u⟩:=h;refine⟨⟨D,⟨A,c,(d.block m j i).trans z,t⟩,y,λs b=>?_⟩,u⟩;obtain⟨q,a,r⟩:=v s b;exact⟨q,a,r.1.stepF d λx n c e f l=>(o _ l).elim (r.2 x n c e f) λp=>r.1.free8 p x n c e f rfl,r.2⟩
theorem bM.kp (h:bM P k Z w m n S)(a:Kp w w'):bM P k Z w' m n S:=h.step (Y:=λ_=>False) (aj.of_kp a) (λg b=>b.elim) (λh=>h)
theorem bM.moved (h:bM P k (λg=>some g=v.ownBlock) w m n S)(a:w.grownBy w' v.ownBlock)(b:c.ownBlock=v.ownBlock\/c.ownBlock=some w.heap.size)(i:some m≠v.ownBlock):bM P k (λg=>some g=c.ownBlock) w' m n S:=by
 have j:=h.olds.step (Y:=λg=>some g=v.ownBlock) ⟨a.os,a.tape,a.output,a.size,λq d f=>a.block q d λe=>f e⟩ (λg a=>.inl (.inl a)) i;refine j.mono λg e=>?_
 rcases b with b|b
 ·exact .inl (by rw[<-b];exact e)
 ·rw[b] at e
  simp only[Jo] at e;exact .inr (by omega)
theorem GV {t:TypeId}(K:Keyed P k)(C:P.underlying t=some (.map k e))(h:bM P k Z w m n S)(E:n<maxLen)(s:Sd)(q:Value)(f:keyOf P k (.int .i64 s.node)=some (.int .i64 s.node))(c:RZ Z w q s.seed):
  ∃ w',(Instr.mapUpdate t (.map (some m)) (.int .i64 s.node) (.agg #[.int .i64 s.node,q])).run P w=.ok () w'/\bM P k Z w' m (n+1) (λy=>y=s\/(S y/\y.node≠s.node))/\w.grownBy w' (some m):=by
 have i:=h.km.nosolid;obtain⟨⟨D,g,v,u⟩,F⟩:=h;obtain⟨w',d,p,o⟩:=g.update K C E f (show dT (.agg #[.int .i64 s.node,q])=some (.held (sdV s.node q),[]) from rfl);have r:WideAt.IsKeyLit (.int .i64 s.node):=trivial;have l:Cs w w':=Cs.grown o i;have j:=KM.put (w:=w) (w':=w') (m:=m) (n:=n+1) F g.isMap v (λs c=>by
  obtain⟨q,a,b⟩:=u s c;exact⟨_,a,q,rfl,b.1⟩) l ⟨q,rfl,c.1⟩ p
 refine⟨w',d,⟨⟨_,p,?_,λy B=>?_⟩,j.one⟩,o⟩
 ·intro x
  by_cases e:x=s.node
  ·subst e
   rw[has_put_same g.isMap r];exact⟨λ_=>⟨s,.inl rfl,rfl⟩,λ_=>rfl⟩
  ·rw[has_put_other (λh=>e (by simpa using h)),v x]
   constructor
   ·rintro⟨y,a,b⟩
    exact⟨y,.inr ⟨a,by rw[b];exact e⟩,b⟩
   ·rintro⟨y,a|⟨a,_⟩,b⟩
    ·subst a;exact absurd b.symm e
    ·exact⟨y,a,b⟩
 ·rcases B with rfl|⟨a,b⟩
  ·exact⟨q,λzd=>atKey_put_same g.isMap r _ zd,c.1.cs l,c.2⟩
  ·obtain⟨A,G,z⟩:=u y a
   refine⟨A,λzd=>?_,z.1.cs l,z.2⟩;rw[atKey_put_other (λh=>b (by simpa using h))];exact G zd
end
end
section
variable {α : Type} {S : Sh α} {Z : Nat -> Prop} {P : Program} {w : World} {t e : TypeId}
theorem GW (K:SK P t e S.k){C:Array Oper}{o:Oper}{a:Act}{K':Act->World->Prop}{Q:Exit->Act->World->Prop}{E:Prop}(hg:o.guard=none)(s x:Operand)
  (ho:o.op=.call { callee:=.builtin .append,args:=#[s,x],argTypes:=#[t,t] })
  (B:Nat) (v:Value) (d:List α) (hs:a.eval s=v) (G:GZ S e Z w B v d) (u:Value) (y:α) (hx:a.eval x=u) (hu:SE S (λg=>some g=v.ownBlock\/Z g) w u [y]) (H:d.length+1<=1000000) (q:B<=w.heap.size)
  (h:∀ r w',GZ S e Z w' B r (d++[y])->w.grownBy w' v.ownBlock->(r.ownBlock=v.ownBlock\/r.ownBlock=some w.heap.size)->K' (a.put o.dst r) w'):if Region.wanted o (yielded C a.tmps)=true then Oper.wp P o a w K' Q else E:=by
 have hw:Region.wanted o (yielded C a.tmps)=true:=by simp[Region.wanted,hg]
 rw[if_pos hw];obtain⟨i,z,hi,hz,n,R,N⟩:=K.hi;obtain⟨us,h1,h2,h3⟩:=G;obtain⟨ad,c,rfl,hc,hm,Y,p⟩:=hu;have T:(d.length+1)*i.bytes<=140737488355328:=by
  have:=Kc H R;omega
 obtain⟨b,J,rfl,_,hn⟩:=p (by simp);obtain⟨l,n1,X,n3,n4⟩:=SE.flat hn;obtain⟨r,w',F,k1,M,_,L⟩:=run_append_own_at (P:=P) w B t o.type e i z S.k i.bytes K.ht hi hz n rfl N S.pos v d.length us h1 ⟨b,J,none⟩ 1 c l n1 (λj y A=>by rw[Addr.add_mid];exact n3 j y A) X (by unfold maxLen;omega) T q;have U:=h r w' ⟨us++l,by rw[IE];exact k1,λy D=>?_,λj y A=>?_⟩ M L
 ·unfold Oper.wp
  simp[execOp,ho,resolve,invoke,builtin,hs,hx,F,Result.andThen];exact U
 ·rcases Jy.1 D with D|D
  ·exact h2 y D
  ·exact X y D
 ·have m:=h1.1
  by_cases I:j<d.length
  ·rw[Jh I] at A
   obtain⟨vs,W,V⟩:=h3 j y A;refine⟨vs,λf O=>?_,Sh.moved V M L⟩;have h5:(j+1)*S.k<=d.length*S.k:=JL _ I;rw[Le,Lf] at h5;rw[Jh (by rw[m];omega)];exact W f O
  ·rw[Jd (by omega)] at A
   obtain⟨vs,W,V⟩:=n4 (j - d.length) y A;refine⟨vs,λf O=>?_,Sh.moved V M L⟩;have h5:d.length*S.k<=j*S.k:=JL _ (by omega);rw[Jd (by rw[m];omega),m,<-W f O,Nat.sub_mul];congr 1
   omega
end
theorem aH.old {S:Sh α}{l:List α}(h:aH S w v l):SZ S (λg=>w.heap.size<=g) w v l:=
 ⟨SE.solidly h λg f=>.inr λa=>by have:=a.lt;omega,λx n c e b d=>by have:=SE.inside h x n c e b;omega⟩
theorem SZ.olds {S:Sh α}{l:List α}(h:SZ S Z w v l):SZ S (λg=>Z g\/w.heap.size<=g) w v l:=
 ⟨h.1.solidly λg b=>b.imp id λb f=>by have:=f.lt;omega,λx n c e d a=>a.elim (λa=>h.2 x n c e d a) λa=>by have:=h.1.inside x n c e d;omega⟩
theorem Hn (v:Value)(t:List St)(Z:Nat->Prop)(w:World)(j:SZ bJ Z w v t)(y:t.length<=100000):
  Calls prog 121 #[v] w λe w'=>(∃ i,e=.returned i/\GZ bJ 74 (λg=>Z g\/w.heap.size<g) w' w.heap.size i t)/\Kp w w':=by
 have q:∀ (w:World) (a:Option Addr) (n c n' o:Nat),(binOp .eql 25 (.slice a n c) (.slice none n' o)).run prog w=.ok (.bool a.isNone) w:=λw a n c n' o=>Lib.run_eql_slice_nil w _ _ a n c n' o underlying25
 obtain⟨a,c,rfl,z,x,b,d⟩:=id j.1
 cases a with
 | none=>
  have m:=b rfl
  have l:t=[]:=IX (by omega)
  subst l m
  go_enter func121,ntmps121
  go_wp2_with fail
  go_ret
  exact⟨⟨_,rfl,GZ.nil _ _ _⟩,Kp.refl _⟩
 | some a=>
  have u:Hid (SE bJ (λg=>some g=(Value.slice (some ⟨w.heap.size,0,none⟩) 0 0).ownBlock\/(Z g\/w.heap.size<g)) (w.alloc (.cells #[] 74)) (.slice (some a) t.length c) t):=
   (SZ.step (j.olds) (aj.of_kp ((Kp.refl w).alloc _))).1.mono λg r=>r.elim (λe=>by simp[Value.ownBlock] at e;exact .inr (by omega)) λh=>h.imp id λh=>by omega
  have f:([]:List St).length+t.length<=1000000:=by simp;omega
  clear j d b
  go_enter func121,ntmps121
  go_wp2_with(at_builtin;refine gQ (S:=bJ) (Z:=λg=>Z g\/w.heap.size<g) stK rfl _ _ rfl w.heap.size _ [] rfl (GZ.empty _ w) _ t rfl u.out f (by simp) ?_;intro i w' o' s _)
  go_ret
  exact⟨⟨_,rfl,by simpa using o'⟩,Kp.grown (v:=.slice (some ⟨w.heap.size,0,none⟩) 0 0) ((Kp.refl _).alloc _) s (by intro k p;simp[Value.ownBlock] at p;omega)⟩
theorem Ho (v:Value)(t:List Se)(Z:Nat->Prop)(w:World)(j:SZ dl Z w v t)(y:t.length<=100000):
  Calls prog 122 #[v] w λe w'=>(∃ i,e=.returned i/\GZ dl 92 (λg=>Z g\/w.heap.size<g) w' w.heap.size i t)/\Kp w w':=by
 have q:∀ (w:World) (a:Option Addr) (n c n' o:Nat),(binOp .eql 72 (.slice a n c) (.slice none n' o)).run prog w=.ok (.bool a.isNone) w:=λw a n c n' o=>Lib.run_eql_slice_nil w _ _ a n c n' o underlying72
 obtain⟨a,c,rfl,z,x,b,d⟩:=id j.1
 cases a with
 | none=>
  have m:=b rfl
  have l:t=[]:=IX (by omega)
  subst l m
  go_enter func122,ntmps122
  go_wp2_with fail
  go_ret
  exact⟨⟨_,rfl,GZ.nil _ _ _⟩,Kp.refl _⟩
 | some a=>
  have u:Hid (SE dl (λg=>some g=(Value.slice (some ⟨w.heap.size,0,none⟩) 0 0).ownBlock\/(Z g\/w.heap.size<g)) (w.alloc (.cells #[] 92)) (.slice (some a) t.length c) t):=
   (SZ.step (j.olds) (aj.of_kp ((Kp.refl w).alloc _))).1.mono λg r=>r.elim (λe=>by simp[Value.ownBlock] at e;exact .inr (by omega)) λh=>h.imp id λh=>by omega
  have f:([]:List Se).length+t.length<=1000000:=by simp;omega
  clear j d b
  go_enter func122,ntmps122
  go_wp2_with(at_builtin;refine gQ (S:=dl) (Z:=λg=>Z g\/w.heap.size<g) seK rfl _ _ rfl w.heap.size _ [] rfl (GZ.empty _ w) _ t rfl u.out f (by simp) ?_;intro i w' o' s _)
  go_ret
  exact⟨⟨_,rfl,by simpa using o'⟩,Kp.grown (v:=.slice (some ⟨w.heap.size,0,none⟩) 0 0) ((Kp.refl _).alloc _) s (by intro k p;simp[Value.ownBlock] at p;omega)⟩
