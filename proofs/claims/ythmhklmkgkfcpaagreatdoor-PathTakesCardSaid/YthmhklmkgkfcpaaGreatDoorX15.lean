import Derived.Test.YthmhklmkgkfcpaaGreatDoorX13
import Derived.Test.YthmhklmkgkfcpaaGreatDoorX14
set_option linter.all false
set_option maxHeartbeats 8000000
set_option maxRecDepth 100000
namespace Go.Proofs.YthmhklmkgkfcpaaGreatDoor
open Go.Proofs.Tryz Go.RowKit
variable {K c i me x:Nat}{name:Int}{pub:List UInt8}{t:List Nod}{w:World}
def eI:List UInt8:=[110,111,100,101]
def fF:List UInt8:=[112,97,116,104]
def Dd:List UInt8:=[111,110,99,101]
def bH (s label:List UInt8):List UInt8:=cC s label [] 32
theorem jR (s a:List UInt8):(bH s a).length=32:=nN _ _ _
def cK (t:List Nod)(i k:Nat):List Int:=ii t ((nd k (sq (i / 2 ^ k)):Nat):Int)
def ixS (t:List Nod)(i:Nat):Nat->List Nat
 | 0=>[]
 | m+1=>if (cK t i m).length=0 then ixS t i m else ixS t i m++[m]
def aC (t:List Nod)(i m:Nat):List Nat:=(ixS t i m).map λk=>nd (k+1) (i / 2 ^ (k+1))
def aT (t:List Nod)(i m:Nat):List (List Int):=(ixS t i m).map (cK t i)
theorem pD (t:List Nod)(i:Nat):∀ m,∀ k∈ixS t i m,k<m
 | 0,k,h=>by cases h
 | m+1,k,h=>by
  unfold ixS at h
  split at h
  ·have:=pD t i m k h;omega
  ·rcases Le.1 h with h|h
   ·have:=pD t i m k h;omega
   ·simp at h;omega
theorem lN (t:List Nod)(i:Nat):∀ m k,k∈ixS t i m↔k<m/\0<(cK t i k).length
 | 0,k=>by simp[ixS]
 | m+1,k=>by
  unfold ixS
  split
  ·next h=>
   rw[lN t i m k]
   constructor
   ·exact fun⟨h1,h2⟩=>⟨by omega,h2⟩
   ·rintro⟨h1,h2⟩
    refine⟨?_,h2⟩
    by_cases e:k=m
    ·subst e;omega
    ·omega
  ·next h=>
   rw[Le,lN t i m k]
   constructor
   ·rintro (⟨h1,h2⟩|h1)
    ·exact⟨by omega,h2⟩
    ·simp at h1;subst h1;exact⟨by omega,by omega⟩
   ·rintro⟨h1,h2⟩
    by_cases e:k=m
    ·exact .inr (by simp[e])
    ·exact .inl ⟨by omega,h2⟩
theorem pE (t:List Nod)(i:Nat):∀ m,(ixS t i m).Pairwise (·<·)
 | 0=>List.Pairwise.nil
 | m+1=>by
  unfold ixS
  split
  ·exact pE t i m
  ·refine List.pairwise_append.2 ⟨pE t i m,Mp _ _,λa ha b hb=>?_⟩
   have:=pD t i m a ha
   simp at hb
   omega
theorem kC (t:List Nod)(i m:Nat):(ixS t i m).length<=m:=by
 induction m with
 | zero=>exact JO _
 | succ m ih=>
  unfold ixS
  split
  ·omega
  ·rw[JQ,Ka,Kf];omega
def eU (t:List Nod)(i:Int):Int:=if bc t i then 0 else 11
def gQ (t:List Nod)(K:Nat)(i:Int):List Nat:=if bc t i then aC t i.toNat K else []
def aZ:List Sd->Int->List UInt8
 | [],_=>[]
 | s :: l,x=>if s.node=x then s.seed else aZ l x
def bZ (t:List Nod)(K:Nat)(me:Int)(own:List Sd):Prop:=
 bc t me /\
 (∀ k,k<own.length->((aG own k).node=2*me\/∃ x∈aL K 0 me.toNat,(x:Int)=(aG own k).node/\(ats t x).kind=2)/\(aG own k).seed.length=32 /\
  aI (aG own k).seed=(ats t (aG own k).node.toNat).pub/\(0<k->(aG own (k - 1)).node<(aG own k).node)) /\
 (∀ x∈aL K 0 me.toNat,(ats t x).kind=2->me∉(ats t x).un->(aZ own (x:Int)).length≠0)/\(aZ own (2*me)).length≠0
def dY:List Sd->Sd->List Sd
 | [],s=>[s]
 | a :: l,s=>if s.node<a.node then s :: a :: l else a :: dY l s
def aU (s:List UInt8):Nat->List UInt8
 | 0=>s
 | k+1=>bH (aU s k) fF
def gR (s:List UInt8)(n:Nat):List UInt8:=aU s (if n=0 then 1 else n)
theorem jS {s:List UInt8}(h:s.length=32):∀ k,(aU s k).length=32
 | 0=>h
 | k+1=>jR _ _
theorem jT (s:List UInt8)(a:Nat):∀ b,aU s (a+b)=aU (aU s a) b
 | 0=>rfl
 | b+1=>by show bH (aU s (a+b)) fF=_;rw[jT s a b];rfl
def bo (s:List UInt8)(k:Nat):List UInt8:=bH (aU s k) eI
def eD (secret:List UInt8)(n:Nat):List UInt8:=cC secret Dd (be 4 n) 32
def de (t:List Nod)(secret info s:List UInt8):Nat->List Int->List Se
 | _,[]=>[]
 | n,y :: l=>⟨ix (ats t y.toNat).pub (eD secret n),iz (ats t y.toNat).pub (eD secret n) info s⟩ :: de t secret info s (n+1) l
theorem nP (t:List Nod)(secret info s:List UInt8):∀ (l:List Int) (n:Nat),(de t secret info s n l).length=l.length
 | [],_=>rfl
 | _ :: l,n=>by unfold de;rw[Ka,Ka,nP t secret info s l]
def makeS (t:List Nod)(secret info:List UInt8):List UInt8->Nat->List (List Int)->List St
 | _,_,[]=>[]
 | s,n,who :: l=>⟨dX (bH s eI),de t secret info s n who⟩ :: makeS t secret info (bH s fF) (n+who.length) l
theorem pF (t:List Nod)(secret info:List UInt8):∀ (l:List (List Int)) (s:List UInt8) (n:Nat),(makeS t secret info s n l).length=l.length
 | [],_,_=>rfl
 | _ :: l,s,n=>by unfold makeS;rw[Ka,Ka,pF t secret info l]
theorem rX (t:List Nod)(secret info:List UInt8):∀ (l:List (List Int)) (s:List UInt8) (n k:Nat),k<l.length->(am (makeS t secret info s n l) k).pub=aI (bo s k)
 | [],_,_,_,h=>absurd h (LT _)
 | _ :: l,s,n,0,_=>(eC (jR s eI)).2
 | who :: l,s,n,k+1,h=>by
  show(am (makeS t secret info (bH s fF) (n+who.length) l) k).pub=_
  rw[rX t secret info l _ _ k (by simpa using h)]
  unfold bo
  congr 2
  have:=jT s 1 k
  rw[MW] at this
  exact this.symm
def cX:List Sd->List UInt8->List Nat->List Sd
 | own,_,[]=>own
 | own,s,x :: l=>cX (dY own ⟨(x:Int),bH s eI⟩) (bH s fF) l
def bL (p:List St):Nat->List Nat->List Nod->List Nod
 | _,[],t=>t
 | k,x :: l,t=>bL p (k+1) l (t.set x ⟨2,0,(am p k).pub,[],[]⟩)
def eE (t:List Nod)(i:Int)(l:List Nat)(p:Pa):List Nod:=gM (bL p.step 0 l (mG t i p.pub)) i
structure Md where
 tree:List Nod
 own:List Sd
 path:Pa
 last:List UInt8
def fv:Md:=⟨[],[],⟨[],[]⟩,[]⟩
def gS (t:List Nod)(i:Int)(seed secret:List UInt8):Int:=if seed.length=32/\secret.length=32 then eU t i else 1
def bS (t:List Nod)(K i:Nat)(seed secret info:List UInt8):Pa:=⟨aI seed,makeS t secret info secret 0 (aT t i K)⟩
def gi (t:List Nod)(K:Nat)(i:Int)(seed secret info:List UInt8):Md:=
 if gS t i seed secret=0 then ⟨eE t i (aC t i.toNat K) (bS t K i.toNat seed secret info),cX [⟨2*i,seed⟩] secret (aC t i.toNat K),bS t K i.toNat seed secret info,gR secret (ixS t i.toNat K).length⟩ else fv
def dy (who:List (List Int))(p:Pa):Prop:=
 p.step.length=who.length/\p.pub.length=32/\∀ k,k<who.length->(am p.step k).fors.length=(who.getD k []).length/\(am p.step k).pub.length=32
def df (own:List Sd)(info:List UInt8):List Int->List Se->List UInt8 × Int
 | [],_=>([],5)
 | y :: l,f=>
  if (aZ own y).length=0 then df own info l f.tail
  else if (aH f 0).half.length≠32 then ([],5)
  else if unE (aZ own y) (aH f 0).half info (aH f 0).b≠0 then ([],unE (aZ own y) (aH f 0).half info (aH f 0).b)
  else if (unR (aZ own y) (aH f 0).half info (aH f 0).b).length≠32 then ([],2)
  else (unR (aZ own y) (aH f 0).half info (aH f 0).b,0)
def gn (p:List St)(s:List UInt8)(k n:Nat):Prop:=∀ a,k+a<n->aI (bo s a)=(am p (k+a)).pub
theorem Se.ext' {a b:Se}(d:a.half=b.half)(c:a.b=b.b):a=b:=by cases a;cases b;simp_all
theorem St.ext' {a b:St}(d:a.pub=b.pub)(c:a.fors=b.fors):a=b:=by cases a;cases b;simp_all
theorem Pa.ext' {a b:Pa}(d:a.pub=b.pub)(c:a.step=b.step):a=b:=by cases a;cases b;simp_all
theorem Sd.ext' {a b:Sd}(d:a.node=b.node)(c:a.seed=b.seed):a=b:=by cases a;cases b;simp_all
theorem wo {own:List Sd}{t:List Nod}{secret info s:List UInt8}(hs:s.length=32):∀ (l:List Int) (n:Nat),
  (∀ y∈l,(aZ own y).length≠0->(aZ own y).length=32/\aI (aZ own y)=(ats t y.toNat).pub)->(∃ y∈l,(aZ own y).length≠0) ->
  df own info l (de t secret info s n l)=(s,0)
 | [],_,_,⟨y,hy,_⟩=>by cases hy
 | y :: l,n,h,hex=>by
  unfold df
  by_cases hk:(aZ own y).length=0
  ·rw[if_pos hk]
   have ih:=wo (own:=own) (t:=t) (secret:=secret) (info:=info) hs l (n+1) (λz hz=>h z (by simp[hz])) (by
    obtain⟨z,hz,h2⟩:=hex
    rcases Lu.1 hz with e|e
    ·subst e;exact absurd hk h2
    ·exact⟨z,e,h2⟩)
   exact ih
  ·rw[if_neg hk]
   obtain⟨h1,h2⟩:=h y (by simp) hk
   have hon:(eD secret n).length=32:=nN _ _ _
   have hpl:(ats t y.toNat).pub.length=32:=by rw[<-h2];exact gO _
   obtain⟨e1,e2,e3⟩:=pA info s (⟨hon,hpl⟩:okW (ats t y.toNat).pub (eD secret n))
   have e0:aH (de t secret info s n (y :: l)) 0=⟨aI (eD secret n),iy (ats t y.toNat).pub (aI (eD secret n)) info s⟩:=by
    show(⟨ix (ats t y.toNat).pub (eD secret n),iz (ats t y.toNat).pub (eD secret n) info s⟩:Se)=_
    rw[e2,e3]
   have hh:=gO (eD secret n)
   obtain⟨u1,u2⟩:=Dc (seed:=aZ own y) (half:=aI (eD secret n)) info s h1 hh
   rw[e0,if_neg (by simpa using hh)]
   rw[h2] at u1 u2
   simp only[u1,u2]
   rw[if_neg (by decide),if_neg (by simpa using hs)]
theorem aD.there_iff (h:aD t K)(k:Nat):bc t (k:Int)↔(ats t (2*k)).kind=1:=by
 constructor
 ·intro b
  have:=b.2.2;rwa [JX] at this
 ·intro a
  have:=Oe (t:=t) (x:=2*k) (by rw[a];decide);exact⟨by omega,by unfold lvs;omega,by rw[JX];exact a⟩
theorem aD.new (h:eh name pub):aD [aN name pub] 0:=by
 have e:ats [aN name pub] 0=aN name pub:=rfl;refine⟨by omega,rfl,λx c=>?_,λx y b a=>by simp at a;omega,⟨0,by simp,rfl⟩⟩;have:x=0:=by simpa using c
 subst this;rw[show okP [aN name pub] 0↔_ from Iff.rfl];exact .inr ⟨rfl,h,.inl rfl,λ_=>rfl,λd=>absurd d (show ¬(1:Int)=2 by decide)⟩
theorem aD.over {aa:List Nod}(h:aD t K)(l:aa.length=t.length)(c:∀ y,ats aa y=ats t y\/(y % 2=1/\(ats aa y=aX\/∃ p:List UInt8,p.length=32/\ats aa y=⟨2,0,p,[],[]⟩))):aD aa K:=by
 have n:∀ i,ats aa (2*i)=ats t (2*i):=λi=>by
  rcases c (2*i) with e|⟨e,_⟩
  ·exact e
  ·omega
 have q:∀ y,(ats aa y).kind=1->ats aa y=ats t y:=λy d=>by
  rcases c y with e|⟨_,e|⟨p,_,e⟩⟩
  ·exact e
  ·rw[e] at d;cases d
  ·rw[e] at d;cases d
 refine⟨h.le,l.trans h.len,λy b=>?_,λx y j b g f=>?_,?_⟩
 ·rcases c y with e|⟨u,e|⟨p,s,e⟩⟩
  ·rcases h.okA y with v|⟨C,B,A,z,o⟩
   ·exact .inl (e.trans v)
   ·refine .inr ?_
    rw[e];exact⟨C,B,A,z,λa=>⟨(o a).1,(o a).2.1,λi m=>by
     have:=(o a).2.2 i m;rw[n];exact this⟩⟩
  ·exact .inl e
  ·refine .inr ?_
   rw[e];refine⟨?_,⟨Int.le_refl 0,show(0:Int)<=65535 by decide,s⟩,.inl rfl,λa=>rfl,λ_=>⟨rfl,List.Pairwise.nil,λi m=>by cases m⟩⟩;show(2:Int)=1+(y:Int) % 2
   omega
 ·have w:=q x g
  have a:=q y f;rw[w] at g ⊢;rw[a] at f ⊢;exact h.one x y j (l▸b) g f
 ·obtain⟨x,r,k⟩:=h.used
  refine⟨x,l▸r,?_⟩;have D:x % 2=0:=by
   rcases h.okA x with e|⟨e,_⟩
   ·rw[e] at k;cases k
   ·omega
  rcases c x with e|⟨u,_⟩
  ·rw[e];exact k
  ·omega
theorem bl.over {aa:List Nod}(h:bl t K)(f:aa.length=t.length)(a:∀ y,ats aa y=ats t y\/(y % 2=1/\(ats aa y=aX\/∃ p:List UInt8,p.length=32/\ats aa y=⟨2,0,p,[],[]⟩))):bl aa K:=by
 refine⟨h.le,f.trans h.len,λy=>?_,λy b=>?_⟩
 ·rcases a y with e|⟨_,e|⟨p,c,e⟩⟩
  ·rw[e];exact h.node y
  ·rw[e];exact el.blank
  ·rw[e]
   exact⟨.inr (.inr rfl),⟨Int.le_refl 0,show(0:Int)<=65535 by decide⟩,by simp only[c];decide,JW _,JW _,λi g=>by cases g⟩
 ·rcases a y with e|⟨d,_⟩
  ·rw[e] at b;exact h.par y b
  ·exact d
theorem nR (p:List St):∀ (l:List Nat) (k:Nat) (t:List Nod),(bL p k l t).length=t.length
 | [],_,_=>rfl
 | x :: l,k,t=>(nR p l (k+1) _).trans (Km ..)
theorem pN (p:List St):∀ (l:List Nat) (k:Nat) (t:List Nod) (y:Nat),(∀ x∈l,x<t.length)->y∉l->ats (bL p k l t) y=ats t y
 | [],_,_,_,_,_=>rfl
 | x :: l,k,t,y,h,hy=>by
  show ats (bL p (k+1) l _) y=_
  rw[pN p l (k+1) _ y (λz hz=>by rw[Km];exact h z (by simp[hz])) (λe=>hy (by simp[e])),fm _ _ _ _ (h x (by simp)),if_neg λe=>hy (by simp[e])]
theorem sm (p:List St):∀ (l:List Nat) (k:Nat) (t:List Nod),l.Nodup->(∀ x∈l,x<t.length)->∀ a,a<l.length->ats (bL p k l t) (l.getD a 0)=⟨2,0,(am p (k+a)).pub,[],[]⟩
 | [],_,_,_,_,a,h=>absurd h (LT _)
 | x :: l,k,t,hn,h,0,_=>by
  show ats (bL p (k+1) l _) x=_
  rw[pN p l (k+1) _ x (λz hz=>by rw[Km];exact h z (by simp[hz])) (Nl.1 hn).1,fm _ _ _ _ (h x (by simp)),if_pos rfl]
  rfl
 | x :: l,k,t,hn,h,a+1,ha=>by
  show ats (bL p (k+1) l _) (l.getD a 0)=_
  rw[sm p l (k+1) _ (Nl.1 hn).2 (λz hz=>by rw[Km];exact h z (by simp[hz])) a (by simpa using ha),show k+1+a=k+(a+1) by omega]
theorem DC:x∈aC t i K↔∃ k,k<K/\0<(cK t i k).length/\x=nd (k+1) (i / 2 ^ (k+1)):=by
 unfold aC;rw[KN];constructor
 ·rintro⟨k,c,rfl⟩
  obtain⟨b,a⟩:=(lN t i K k).1 c;exact⟨k,b,a,rfl⟩
 ·rintro⟨k,b,a,rfl⟩
  exact⟨k,(lN t i K k).2 ⟨b,a⟩,rfl⟩
theorem fP (h:x∈aC t i K):x∈aL K 0 i:=by
 obtain⟨k,a,_,rfl⟩:=DC.1 h;exact ki.2 ⟨k+1,by omega,by omega,rfl⟩
theorem lT (t:List Nod)(i K:Nat):(aC t i K).Nodup:=by
 unfold aC;refine MZ.2 ((pE t i K).imp λ{a b} h e=>?_);have:=(jd e).1;omega
theorem gy (t:List Nod)(i K:Nat):(aC t i K).length=(ixS t i K).length/\(aT t i K).length=(ixS t i K).length:=by
 unfold aC aT;rw[Kw,Kw];exact⟨rfl,rfl⟩
theorem pO:∀ (own:List Sd) (y:Int),(aZ own y).length≠0->∃ k,k<own.length/\(aG own k).node=y/\(aG own k).seed=aZ own y
 | [],y,h=>absurd rfl h
 | s :: l,y,h=>by
  unfold aZ at h ⊢
  by_cases e:s.node=y
  ·rw[if_pos e]
   exact⟨0,by simp,e,rfl⟩
  ·rw[if_neg e] at h ⊢
   obtain⟨k,h1,h2,h3⟩:=pO l y h
   exact⟨k+1,by simp;omega,h2,h3⟩
theorem wS {t:List Nod}{K me:Nat}(hr:aD t K)(hk:(ats t (2*me)).kind=1):∀ j,j<=K ->
  ((2*me:Nat):Int)∈bt t j (me / 2 ^ j)\/∃ a,1<=a/\a<=j/\((nd a (me / 2 ^ a):Nat):Int)∈bt t j (me / 2 ^ j)/\(ats t (nd a (me / 2 ^ a))).kind=2/\(me:Int)∉(ats t (nd a (me / 2 ^ a))).un
 | 0,_=>by
  left
  have e:me / 2 ^ 0=me:=by simp
  unfold bt
  rw[e,eF,if_neg (by rw[hk];decide)]
  exact MO ..
 | j+1,hj=>by
  have hdiv:me / 2 ^ (j+1)=me / 2 ^ j / 2:=by rw[MH,Lw]
  by_cases h0:(ats t (nd (j+1) (me / 2 ^ (j+1)))).kind=0
  ·have hc:2*(me / 2 ^ (j+1))=me / 2 ^ j\/2*(me / 2 ^ (j+1))+1=me / 2 ^ j:=by omega
   have hsub:∀ y,y∈bt t j (me / 2 ^ j)->y∈bt t (j+1) (me / 2 ^ (j+1)):=λy hy=>by
    unfold bt
    rw[if_pos h0,Le]
    rcases hc with e|e
    ·exact .inl (by rw[e];exact hy)
    ·exact .inr (by rw[e];exact hy)
   rcases wS hr hk j (by omega) with h|⟨a,h1,h2,h3,h4⟩
   ·exact .inl (hsub _ h)
   ·exact .inr ⟨a,h1,by omega,hsub _ h3,h4⟩
  ·have hodd:=jz j (me / 2 ^ (j+1))
   have h2:(ats t (nd (j+1) (me / 2 ^ (j+1)))).kind=2:=by
    rcases hr.odd hodd with e|⟨e,_⟩
    ·rw[e] at h0;exact absurd rfl h0
    ·exact e
   by_cases hu:(me:Int)∈(ats t (nd (j+1) (me / 2 ^ (j+1)))).un
   ·left
    unfold bt
    rw[if_neg h0]
    refine Nb _ (KN.2 ⟨(me:Int),hu,by omega⟩)
   ·right
    refine⟨j+1,by omega,JO _,?_,h2,hu⟩
    unfold bt
    rw[if_neg h0]
    exact MO ..
theorem nT (o:K<=10)(j:i<2 ^ K)(h:me<2 ^ K)(d:i≠me):
  1<=bG i me/\bG i me<=K/\i / 2 ^ (bG i me)=me / 2 ^ (bG i me)/\sq (i / 2 ^ (bG i me - 1))=me / 2 ^ (bG i me - 1):=by
 obtain⟨g,c,f⟩:=oJ o j h;obtain⟨m,l⟩:∃ m,bG i me=m:=⟨_,rfl⟩;rw[l] at g c f ⊢;have k:m≠0:=λe=>by subst e;simp at c;exact d c
 obtain⟨n,rfl⟩:∃ n,m=n+1:=⟨m - 1,by omega⟩;refine⟨by omega,g,c,?_⟩;rw[LR];have p:=f n (by omega);rw[MH,<-Lw,<-Lw] at c;generalize i / 2 ^ n=a at *;generalize me / 2 ^ n=b at *;clear g f j h;unfold sq;split <;> omega
theorem sn {own:List Sd}(b:aD t K)(r:i<2 ^ K)(p:(ats t (2*me)).kind=1)(g:me<2 ^ K)(c:i≠me)(l:bZ t K (me:Int) own):
  ∃ y∈cK t i (bG i me - 1),(aZ own y).length≠0:=by
 obtain⟨B,A,z,f⟩:=nT b.le r g c;obtain⟨n,o⟩:∃ n,bG i me - 1=n:=⟨_,rfl⟩;rw[o] at f ⊢;have m:me / 2 ^ n<2 ^ (K - n):=by
  have:=ke (K:=K) (j:=0) (q:=me) (i:=n) (by simpa using g) (by omega);simpa using this
 have x:cK t i n=bt t n (me / 2 ^ n):=by
  unfold cK;rw[f];exact oR b (by omega) m
 obtain⟨_,_,d,k⟩:=l;rw[JX] at d;rw[x];rcases wS b p n (by omega) with h|⟨a,w,C,v,u,s⟩
 ·refine⟨_,h,?_⟩
  have e:((2*me:Nat):Int)=2*(me:Int):=by omega
  rw[e];exact k
 ·exact⟨_,v,d _ (ki.2 ⟨a,w,by omega,rfl⟩) u s⟩
theorem pP (t:List Nod)(secret info:List UInt8):∀ (l:List (List Int)) (s:List UInt8) (n k:Nat),k<l.length->∃ n',(am (makeS t secret info s n l) k).fors=de t secret info (aU s k) n' (l.getD k [])
 | [],_,_,_,h=>absurd h (LT _)
 | who :: l,s,n,0,_=>⟨n,rfl⟩
 | who :: l,s,n,k+1,h=>by
  obtain⟨n',e⟩:=pP t secret info l (bH s fF) (n+who.length) k (by simpa using h)
  refine⟨n',?_⟩
  show(am (makeS t secret info (bH s fF) (n+who.length) l) k).fors=_
  rw[e]
  have:=jT s 1 k
  rw[MW] at this
  show de t secret info (aU (bH s fF) k) n' (l.getD k [])=de t secret info (aU s (k+1)) n' (l.getD k [])
  rw[this]
  rfl
theorem lU (t:List Nod)(K i:Nat)(seed secret info:List UInt8):dy (aT t i K) (bS t K i seed secret info):=by
 refine⟨pF _ _ _ _ _ _,gO _,λk a=>⟨?_,?_⟩⟩
 ·obtain⟨n',e⟩:=pP t secret info (aT t i K) secret 0 k a
  show(am (makeS t secret info secret 0 (aT t i K)) k).fors.length=_
  rw[e,nP]
 ·show(am (makeS t secret info secret 0 (aT t i K)) k).pub.length=32
  rw[rX t secret info _ _ _ k a];exact gO _
def kM (t:List Nod)(i me:Nat):Nat:=(ixS t i (bG i me - 1)).length
theorem so (t:List Nod)(i n:Nat)(h:0<(cK t i n).length):∀ m,n<m->∃ rest,ixS t i m=ixS t i n++n :: rest
 | 0,hm=>absurd hm (LT _)
 | m+1,hm=>by
  by_cases e:n=m
  ·subst e
   refine⟨[],?_⟩
   rw[show ixS t i (n+1)=if (cK t i n).length=0 then ixS t i n else ixS t i n++[n] from rfl,if_neg (by omega)]
  ·obtain⟨rest,e2⟩:=so t i n h m (by omega)
   show ∃ rest,(if (cK t i m).length=0 then ixS t i m else ixS t i m++[m])=_
   split
   ·exact⟨rest,e2⟩
   ·exact⟨rest++[m],by rw[e2,LQ];rfl⟩
theorem sr (b:1<=bG i me/\bG i me<=K)(h:0<(cK t i (bG i me - 1)).length):
  kM t i me<(ixS t i K).length/\(ixS t i K).getD (kM t i me) 0=bG i me - 1/\(aT t i K).getD (kM t i me) []=cK t i (bG i me - 1)/\(aC t i K).getD (kM t i me) 0=nd (bG i me) (i / 2 ^ (bG i me)):=by
 obtain⟨rest,e⟩:=so t i _ h K (by omega);unfold kM;have c:(ixS t i K).length=(ixS t i (bG i me - 1)).length+(rest.length+1):=by rw[e,JQ,Ka]
 have a:(ixS t i K)[(ixS t i (bG i me - 1)).length]?=some (bG i me - 1):=by
  rw[e,Kn (JO _),Mq];rfl
 refine⟨by omega,?_,?_,?_⟩
 ·rw[JF,a];rfl
 ·unfold aT
  rw[JF,KX,a];rfl
 ·unfold aC
  rw[JF,KX,a];show nd (bG i me - 1+1) (i / 2 ^ (bG i me - 1+1))=_
  rw[show bG i me - 1+1=bG i me by omega]
def du (t:List Nod)(K i me:Nat)(own:List Sd)(info:List UInt8)(p:Pa):List UInt8 × Int:=df own info ((aT t i K).getD (kM t i me) []) (am p.step (kM t i me)).fors
open Classical in
noncomputable def bT (t:List Nod) (K:Nat) (i me:Int) (own:List Sd) (info:List UInt8) (p:Pa):Int:=
 if ¬bc t i then 11 else if i=me then 1 else if ¬dy (aT t i.toNat K) p then 2
 else if (du t K i.toNat me.toNat own info p).2≠0 then (du t K i.toNat me.toNat own info p).2
 else if gn p.step (du t K i.toNat me.toNat own info p).1 (kM t i.toNat me.toNat) (ixS t i.toNat K).length then 0 else 5
open Classical in
noncomputable def cL (K i:Nat) (own:List Sd):List Sd:=own.filter λs=>decide (¬∃ x∈aL K 0 i,(x:Int)=s.node)
noncomputable def cM (t:List Nod) (K:Nat) (i me:Int) (own:List Sd) (info:List UInt8) (p:Pa):Md:=
 if bT t K i me own info p=0 then
  ⟨eE t i (aC t i.toNat K) p,cX (cL K i.toNat own) (du t K i.toNat me.toNat own info p).1 ((aC t i.toNat K).drop (kM t i.toNat me.toNat)),p,aU (du t K i.toNat me.toNat own info p).1 ((ixS t i.toNat K).length - kM t i.toNat me.toNat)⟩
 else fv
theorem DD {own:List Sd}{seed secret:List UInt8}(info:List UInt8)(c:aD t K)(b:(ats t (2*i)).kind=1)(d:i≠me)(j:bZ t K (me:Int) own)(E:seed.length=32)(u:secret.length=32):
  bT t K (i:Int) (me:Int) own info (bS t K i seed secret info)=0/\du t K i me own info (bS t K i seed secret info)=(aU secret (kM t i me),0) /\
  (cM t K (i:Int) (me:Int) own info (bS t K i seed secret info)).tree=(gi t K (i:Int) seed secret info).tree /\
  (cM t K (i:Int) (me:Int) own info (bS t K i seed secret info)).last=(gi t K (i:Int) seed secret info).last /\
  (cM t K (i:Int) (me:Int) own info (bS t K i seed secret info)).path=(gi t K (i:Int) seed secret info).path:=by
 have f:=(c.there_iff me).1 j.1;have q:=c.len2;have r:i<2 ^ K:=by have:=Oe (t:=t) (x:=2*i) (by rw[b];decide);omega
 have p:me<2 ^ K:=by have:=Oe (t:=t) (x:=2*me) (by rw[f];decide);omega
 obtain⟨A,w,_,_⟩:=nT c.le r p d;obtain⟨y,o,h⟩:=sn c r f p d j;obtain⟨L,J,B,I⟩:=sr (K:=K) ⟨A,w⟩ (Nr o);have C:=(gy t i K).2;have k:du t K i me own info (bS t K i seed secret info)=(aU secret (kM t i me),0):=by
  unfold du;obtain⟨n',e⟩:=pP t secret info (aT t i K) secret 0 (kM t i me) (by omega);show df own info _ (am (makeS t secret info secret 0 (aT t i K)) (kM t i me)).fors=_
  rw[e,B];refine wo (jS u _) _ _ (λz M g=>?_) ⟨y,o,h⟩;obtain⟨a,H,G,F⟩:=pO own z g;obtain⟨_,v,n,_⟩:=j.2.1 a H;rw[F] at v n;rw[G] at n;exact⟨v,n⟩
 have s:bT t K (i:Int) (me:Int) own info (bS t K i seed secret info)=0:=by
  unfold bT;rw[if_neg (by rw[Ln];exact(c.there_iff i).2 b),if_neg (by omega),JX,JX,if_neg (by rw[Ln];exact lU t K i seed secret info),k,if_neg (by simp),if_pos];intro a N;show _=(am (makeS t secret info secret 0 (aT t i K)) (kM t i me+a)).pub
  rw[rX t secret info _ _ _ _ (by omega)];unfold bo;rw[jT]
 have D:gS t (i:Int) seed secret=0:=by
  unfold gS eU;rw[if_pos ⟨E,u⟩,if_pos ((c.there_iff i).2 b)]
 have l:cM t K (i:Int) (me:Int) own info (bS t K i seed secret info)=⟨eE t (i:Int) (aC t i K) (bS t K i seed secret info),cX (cL K i own) (aU secret (kM t i me)) ((aC t i K).drop (kM t i me)),bS t K i seed secret info,aU (aU secret (kM t i me)) ((ixS t i K).length - kM t i me)⟩:=by
  unfold cM;rw[if_pos s,JX,JX,k]
 have m:gi t K (i:Int) seed secret info=⟨eE t (i:Int) (aC t i K) (bS t K i seed secret info),cX [⟨2*(i:Int),seed⟩] secret (aC t i K),bS t K i seed secret info,gR secret (ixS t i K).length⟩:=by
  unfold gi;rw[if_pos D,JX]
 refine⟨s,k,?_,?_,?_⟩
 ·rw[l,m]
 ·rw[l,m]
  show aU (aU secret (kM t i me)) _=gR secret _
  unfold gR;rw[if_neg (by omega),<-jT];congr 1
  omega
 ·rw[l,m]
theorem aD.small (h:aD t K):t.length<=2047/\t.length=2*2 ^ K - 1/\0<t.length:=by
 have c:=h.len2;have b:=bP h.le;have a:=bE K;omega
theorem ju {i:Int}(h:aD t K)(b:bc t i):∃ k:Nat,i=(k:Int)/\k<2 ^ K/\(ats t (2*k)).kind=1/\2*k<t.length:=by
 obtain⟨c,d,a⟩:=b;obtain⟨k,rfl⟩:=Kc c;rw[JX] at a;have:=h.lv;exact⟨k,rfl,by omega,a,lQ (by omega)⟩
theorem DW {l:List Int}(h:l.Pairwise (·<·))(b:∀ i∈l,0<=i/\i<1024):l.length<=1024:=by
 have key:∀ k (a:k<l.length),(k:Int)<=l[k]:=by
  intro k;induction k with
  | zero=>intro a;have:=(b _ (Ko a)).1;omega
  | succ k ih=>
   intro a;have d:=ih (by omega);have c:=(Lc.1 h) k (k+1) (by omega) a (by omega);omega
 by_cases e:l.length=0
 ·omega
 ·have d:=key (l.length - 1) (by omega)
  have c:=(b _ (Ko (show l.length - 1<l.length by omega))).2;omega
theorem aD.un_len (h:aD t K)(x:Nat):(ats t x).un.length<=1024:=by
 by_cases c:x<t.length
 ·obtain⟨m,l,k,j⟩:=wP h.le h.len c
  rcases h.okA x with b|⟨b,o,n,g,f⟩
  ·rw[b];exact JW _
  ·by_cases e:(ats t x).kind=1
   ·rw[g e];exact JW _
   ·have a:=(f (by omega)).2
    exact DW a.1 λi d=>by have:=a.2 i d;omega
 ·rw[jB (by omega)];exact JW _
theorem xj {u:List Nod}(h:t.length=u.length)(i:Nat):pathT t i=pathT u i:=by
 unfold pathT lgT lvs;rw[h]
theorem DX {k:Nat}(c:k<=lvs t)(b:k<lvs t->(ats t (2*k)).kind=0)(a:∀ j,j<k->(ats t (2*j)).kind≠0):dH t=k:=Av c b a
theorem DY (t:List Nod)(m:Nat):(t++List.replicate m aX)++[aX]=t++List.replicate (m+1) aX:=by
 rw[LQ,Nc]
theorem DZ (i:Nat):ats [aX] i=aX:=by
 cases i with
 | zero=>rfl
 | succ i=>exact jB (by simp)
theorem sD (e:Int)(b:eG t name pub=e)(a:e≠0):iH t name pub=t/\jf t name pub=0:=by
 unfold iH jf;rw[b,if_neg a,if_neg a];exact⟨rfl,rfl⟩
theorem Ea (u v:Value)(t:List Nod)(K:Nat)(name:Int)(pub:List UInt8)(w:World)(hu:NL w u t)(hv:Rd w v pub)(hr:aD t K):
  Calls prog 38 #[u,.int .i64 name,v] w λe w'=>(∃ r,e=.returned (.tuple #[r,.int .i64 (jf t name pub),.int .i64 (eG t name pub)])/\NL w' r (iH t name pub)/\(eG t name pub=0->NO 81 w' w.heap.size r (iH t name pub)))/\Kp w w':=by
 have S:=pI;obtain⟨z1,z2,z3⟩:=hr.small;have HM:=JE (si name v pub w hv);have HF:=JE (Do u t name w hu (by omega));have HL:=JE (λW (hW:Kp w W)=>gU u t W (hu.kp hW) (by omega));have HU:=JE hu;obtain⟨ap,cp,rfl,_,_⟩:=hv.shape;obtain⟨a,c,rfl,p1,s1⟩:=hu.shape;by_cases H:eh name pub
 ·rw[Ke H] at HM
  by_cases hf:ib t name=true
  ·have e1:eG t name pub=12:=by unfold eG;rw[if_pos H,if_pos hf]
   obtain⟨e2,e3⟩:=sD 12 e1 (by decide);rw[e1,e2,e3];rw[hf] at HF;clear hu hv hr H hf e1 e2 e3 HL z2;go_enter func38,ntmps38;go_wp2_with fail;refine HM.out.mono ?_;rintro _ _ ⟨rfl,rfl⟩;go_wp2_with fail;refine HF.out.mono ?_;rintro _ _ ⟨rfl,rfl⟩;go_wp2_with fail;go_ret3
   exact⟨⟨_,rfl,HU.out,λh=>absurd h (by decide)⟩,NQ _⟩
  ·have bh:ib t name=false:=by rw[LM];exact hf
   rw[bh] at HF;have H2:=JE (λk h=>lQ (t:=t) (k:=k) h);have V:=JE (λk h1 h2 h3=>DX (t:=t) (k:=k) h1 h2 h3);have bo:=hr.lv;have bI:lvs t<=1024:=by have:=bP hr.le;omega
   have bM:=qZ t;have ar:Hid (dH t=1024->eG t name pub=4/\iH t name pub=t/\jf t name pub=0):=λB=>by
    have e1:eG t name pub=4:=by unfold eG;rw[if_pos H,bh,if_pos B];rfl
    obtain⟨e2,e3⟩:=sD 4 e1 (by decide);exact⟨e1,e2,e3⟩
   have aM:Hid (dH t≠1024->eG t name pub=0/\iH t name pub=iG t name pub/\jf t name pub=((dH t:Nat):Int)):=λB=>by
    have e1:eG t name pub=0:=by unfold eG;rw[if_pos H,bh,if_neg B];rfl
    refine⟨e1,?_,?_⟩
    ·unfold iH;rw[e1];rfl
    ·unfold jf;rw[e1];rfl
   have HR:=JE hr;have hV:=JE hv;obtain⟨N,hN⟩:∃ N,t.length=N:=⟨_,rfl⟩;have aL:=JE hN;rw[hN] at p1 HL HF HU H2 z1 z2 z3 ⊢;obtain⟨L,hL⟩:∃ L,lvs t=L:=⟨_,rfl⟩;have bu:=JE hL;rw[hL] at HL H2 V bo bI bM;have b7:=JE bo;have b9:=JE z2;clear hu hv hr H hf bh hN hL bo z2;go_enter func38,ntmps38;go_wp2_with fail;refine HM.out.mono ?_;rintro _ _ ⟨rfl,rfl⟩;go_wp2_with fail;refine HF.out.mono ?_;rintro _ _ ⟨rfl,rfl⟩;clear HM HF;go_wp2_with fail;go_loop [12] (λi=>∃ k:Nat,k<=L/\i=.int .i64 (k:Int)/\(∀ j,j<k->(ats t (2*j)).kind≠0)) (λi=>(L - (intOf i).toNat))
   case atStart=>exact⟨0,JW _,rfl,λj h=>by omega⟩
   case round=>
    obtain⟨k,hk,rfl,aa⟩:=hrel;have aJ:=JE (HL.out _ (NQ w));have bT:(k<L/\(ats t (2*k)).kind≠0)\/dH t=k:=by
     by_cases h1:k<L
     ·by_cases h2:(ats t (2*k)).kind=0
      ·exact .inr (V.out k hk (λ_=>h2) aa)
      ·exact .inl ⟨h1,h2⟩
     ·exact .inr (V.out k hk (λh=>absurd h h1) aa)
    rcases bT with⟨s,hkn⟩|hgk
    ·have f:=H2.out k s
     obtain⟨b,bO,rfl,hb,hc⟩:=HU.out.at (2*k) f;obtain⟨p,q,h,C⟩:=hc (2*k) f;have c1:=C.kind;have bN:Hid (∀ j,j<k+1->(ats t (2*j)).kind≠0):=λj hj=>by
      rcases Kh (Kr.1 hj) with h3|h3
      ·exact aa j h3
      ·rw[h3];exact hkn
     have i1:IntKind.i64.wrap ((k:Int)+1)=(k:Int)+1:=JI _ (by omega);have i2:IntKind.i64.wrap (2*(k:Int))=((2*k:Nat):Int):=by rw[JI _ (by omega)];omega
     have i3:((2*k:Nat):Int)<(N:Int):=by omega
     clear hc C aa f hb ar aM V HR hV H2;generalize (ats t (2*k)).kind=X at *;generalize 2*k=K2 at *;have cc:(X==0)=false:=JL.2 hkn;go_wp2_with fail;refine aJ.out.mono ?_;rintro _ _ ⟨rfl,rfl⟩;go_wp2_with fail;go_round
     case rel=>exact⟨k+1,by omega,by go_num,bN.out⟩
     case measure=>simp[intOf];omega
    ·by_cases bL:k<L
     ·have bV:¬(k:Int)=(L:Int):=by omega
      have b8:((k:Int)==(L:Int))=false:=JL.2 bV;have br:=Au (t:=t) (by rw[hgk,bu.out];exact bL);rw[hgk] at br;have f:=H2.out k bL;have aW:=JE hgk;obtain⟨b,bO,rfl,hb,hc⟩:=HU.out.at (2*k) f;obtain⟨p,q,h,C⟩:=hc (2*k) f;have c1:=C.kind;rw[br] at c1;clear hc C aa hb H2 br;by_cases B:k=1024
      ·have:=qZ t
       omega
      ·have HE:=JE (aM.out (by rw[hgk];exact B))
       obtain⟨x1,x2,x3,x4,x5⟩:=HR.out.wide;have ag:=HR.out.gap1024 (by rw[hgk];exact B);have aj:=HR.out.un_len;rw[hgk] at x3;have aG:=JE (λW v (h:NL W v ((aP t).set (2*k) (aN name pub)))=>sk v _ (wK t K) k W h ag (by rw[Km];exact x1) x3);obtain⟨y1,y2,y3⟩:=lS (t:=(aP t).set (2*k) (aN name pub)) (i:=k) ag (by rw[Km];exact x1) x3;have aR:pathT ((aP t).set (2*k) (aN name pub)) k=pathT (aP t) k:=xj (Km ..) k;have al:iG t name pub=(pathT ((aP t).set (2*k) (aN name pub)) k).foldl (λo x=>da o k x) ((aP t).set (2*k) (aN name pub)):=by
        rw[aR];unfold iG;rw[hgk]
       have aw:(aP t).length<=100000/\2*k<(aP t).length:=by
        have:=bP ag;have:=bi (wK t K);have:=bE (wK t K);omega
       have ax:∀ m,m<wK t K->ats (((pathT ((aP t).set (2*k) (aN name pub)) k).take m).foldl (λo x=>da o k x) ((aP t).set (2*k) (aN name pub))) ((pathT ((aP t).set (2*k) (aN name pub)) k).getD m 0)=ats t ((pathT ((aP t).set (2*k) (aN name pub)) k).getD m 0):=λm H=>by
        have aT:(pathT ((aP t).set (2*k) (aN name pub)) k).Nodup:=by rw[y1];exact qX _ _
        have ay:m<(pathT ((aP t).set (2*k) (aN name pub)) k).length:=by rw[y3];exact H
        have aY:(pathT ((aP t).set (2*k) (aN name pub)) k).getD m 0=(pathT ((aP t).set (2*k) (aN name pub)) k)[m]:=by rw[JF,JG ay];rfl
        rw[ul _ _ _ _ (aT.sublist (List.take_sublist _ _)) (λy hy=>by
         obtain⟨j,hj,rfl⟩:=Ld (List.mem_of_mem_take hy);have:=y2 j hj;rwa [JF,JG hj] at this),if_neg,fm _ _ _ _ aw.2,if_neg,x4]
        ·rw[aY]
         have:=ik (K:=wK t K) (i:=k) (x:=(pathT ((aP t).set (2*k) (aN name pub)) k)[m]) (by rw[<-y1];exact Ko ay);omega
        ·rintro⟨ak,_⟩
         rw[aY] at ak;obtain⟨j,hj,e⟩:=Ld ak;rw[Ki] at hj;rw[MG] at e;exact(Lc.1 aT) j m (by omega) ay (by omega) e
       have l:((dH t=lvs t->aP t=t++List.replicate (t.length+1) aX)/\(dH t≠lvs t->aP t=t)):=by
        unfold aP;exact⟨λh=>if_pos h,λh=>if_neg h⟩
       rw[hgk,bu.out,aL.out] at l;have HT:Hid (∀ m,m<wK t K->((pathT ((aP t).set (2*k) (aN name pub)) k).take (m+1)).foldl (λo x=>da o k x) ((aP t).set (2*k) (aN name pub))=da (((pathT ((aP t).set (2*k) (aN name pub)) k).take m).foldl (λo x=>da o k x) ((aP t).set (2*k) (aN name pub))) k ((pathT ((aP t).set (2*k) (aN name pub)) k).getD m 0)):=λm H=>pM _ _ _ m 0 (by rw[y3];exact H)
       have P:Hid (((pathT ((aP t).set (2*k) (aN name pub)) k).take (wK t K)).foldl (λo x=>da o k x) ((aP t).set (2*k) (aN name pub))=iG t name pub):=by
        unfold Hid;rw[al,Ku (by rw[y3];exact JO _)]
       have Z:Hid (((pathT ((aP t).set (2*k) (aN name pub)) k).take 0).foldl (λo x=>da o k x) ((aP t).set (2*k) (aN name pub))=(aP t).set (2*k) (aN name pub)):=rfl;have E:Hid (∀ m,(((pathT ((aP t).set (2*k) (aN name pub)) k).take m).foldl (λo x=>da o k x) ((aP t).set (2*k) (aN name pub))).length=(aP t).length):=λm=>by rw[qY,Km]
       have Q:=JE (λm h=>pL (pathT ((aP t).set (2*k) (aN name pub)) k) m h);have aO:Hid (((pathT ((aP t).set (2*k) (aN name pub)) k).map fun(n:Nat)=>(n:Int)).length=wK t K):=by unfold Hid;rw[Kw,y3]
       have G:Hid (∀ m,m<wK t K->(pathT ((aP t).set (2*k) (aN name pub)) k).getD m 0<(aP t).length):=λm H=>by
        have:=y2 m (by rw[y3];exact H);rwa [Km] at this
       obtain⟨F,hF⟩:∃ F:Nat->List Nod,F=λm=>((pathT ((aP t).set (2*k) (aN name pub)) k).take m).foldl (λo x=>da o k x) ((aP t).set (2*k) (aN name pub)):=⟨_,rfl⟩
       have a7:∀ m,((pathT ((aP t).set (2*k) (aN name pub)) k).take m).foldl (λo x=>da o k x) ((aP t).set (2*k) (aN name pub))=F m:=λm=>by rw[hF]
       simp only[a7] at HT Z P E ax;have an:Hid (∀ m,m<wK t K->(ats (F m) ((pathT ((aP t).set (2*k) (aN name pub)) k).getD m 0)).un.length<=100000):=λm H=>by
        rw[ax m H];have:=aj ((pathT ((aP t).set (2*k) (aN name pub)) k).getD m 0);omega
       rw[y3] at Q;clear hF a7 al aR y1 y2 y3 ax aj x2 x4 x5;generalize (pathT ((aP t).set (2*k) (aN name pub)) k).map (fun(n:Nat)=>(n:Int))=PI at *;generalize pathT ((aP t).set (2*k) (aN name pub)) k=PT at *;obtain⟨T0,aB⟩:∃ T0,(aP t).set (2*k) (aN name pub)=T0:=⟨_,rfl⟩;have M:=JE aB;rw[aB] at aG Z;clear aB;generalize iG t name pub=b0 at *;obtain⟨bk,ai,T⟩:=JN x1 aw;clear x1 aw bk;obtain⟨WT,a4⟩:∃ WT,aP t=WT:=⟨_,rfl⟩;rw[a4] at l ai T E G M;obtain⟨K9,a5⟩:∃ K9,wK t K=K9:=⟨_,rfl⟩;rw[a5] at ag x3 HT P Q aO G an;clear a4 a5 x3;have i2:IntKind.i64.wrap (2*(k:Int))=((2*k:Nat):Int):=by rw[JI _ (by omega)];omega
       have bq:¬(k:Int)=1024:=by omega
       have bR:((k:Int)==1024)=false:=JL.2 bq;have bj:=JE (l.2 (by omega));have bQ:((2*k:Nat):Int)<(N:Int):=by omega
       clear l ar aM HR V hgk;go_wp2_with fail;refine aJ.out.mono ?_;rintro _ _ ⟨rfl,rfl⟩;go_wp2_with(at_builtin;refine mH (o:=⟨some 51,_,_,_,_,_⟩) S rfl _ _ rfl w.heap.size _ [] rfl (NO.empty 81 w) _ t rfl (HU.out.apart ((NQ _).alloc _) (λg B=>by cases B;exact JO _)) (by have:=aL.out;simp;omega) (by simp) ?_;intro v1 w1 o1 g1 _;have k1:Kp w w1:=NS ((NQ _).alloc _) g1 (λk hk=>by cases hk;exact JO _);rw[La] at o1)
       have o:=o1;have Y:=k1;rw[<-bj.out] at o;have bg:=JE k1;have O1:=JE (JN o Y);clear o1 g1 k1 o Y;go_loopw[13] (λv wr=>NO 81 wr w.heap.size v WT/\Kp w wr) (λ_ _=>0)
       case atStart=>exact O1.out
       case round=>
        obtain⟨o,Y⟩:=hrel;have aq:=JE (HL.out wr Y);clear O1 bg HL aJ;obtain⟨av,nv,cv,rfl⟩:=o.nl.sl;have OK:=JE (JN o Y);clear o Y;go_wp2_with fail;refine aq.out.mono ?_;rintro _ _ ⟨rfl,rfl⟩;obtain⟨o,Y⟩:=OK.out;clear OK aq;obtain⟨U,cb,ef,b1,b2,b3,b4,_⟩:=o.form (by omega);simp only[JR] at ef;obtain⟨rfl,aS,rfl⟩:=ef;rw[aS] at o ⊢;clear aS;obtain⟨O,bs⟩:∃ O,WT.length=O:=⟨_,rfl⟩;rw[bs] at o b3 ai T E G ⊢;have i3:((2*k:Nat):Int)<(O:Int):=by omega
        have bA:=JE (hV.out.kp Y);have bH:=JE (hV.out.apart (v:=.slice (some ⟨U,0,none⟩) O cv) (λg B=>by cases B;exact b1));have bl:=JE Y;obtain⟨K2,a6⟩:∃ K2,2*k=K2:=⟨_,rfl⟩;rw[a6] at i2 i3 T M;clear a6;go_wp2_with(refine lm iZ rfl rfl (.tmp 75) (.tmp 74) rfl w.heap.size U cv O WT o K2 (by omega) (aN name pub) (.slice ap pub.length cp) (.slice none 0 0) (.slice none 0 0) rfl rfl ⟨bA.out,RI.nil _,bU _⟩ bH.out (NZ _ _ _) (NZ _ _ _) ?_;intro w5 o5 g5)
        have k5:Kp w w5:=NS (v:=.slice (some ⟨U,0,none⟩) O cv) Y g5 (λk hk=>by cases hk;exact b1);have aE:U<w5.heap.size:=JV b2 g5.size;rw[M.out] at o5;have K5:=JE k5;clear o g5 Y bl;go_wp2_with fail;refine(aG.out w5 _ o5.nl).mono ?_;rintro _ w2 ⟨⟨pv,rfl,o2⟩,k2⟩;have au:=JE (o2.apart (v:=.slice (some ⟨U,0,none⟩) O cv) (λg B=>by cases B;exact aE));have r2:=o2.ri;obtain⟨bz,bv,e2,p2,s2⟩:=r2.shape;subst e2;rw[aO.out] at r2 p2 au ⊢;have a9:=JE r2;have HO:=JE (o5.kp k2);have HK:=JE (k5.trans k2);have bw:=JV aE k2.size;clear aG o5 o2 r2 k5 k2 K5 b2 aE;go_wp2_with fail;go_loopw[15] (λx wr=>∃ m:Nat,m<=K9/\x=.int .i64 (m:Int)/\NO 81 wr w.heap.size (.slice (some ⟨U,0,none⟩) O cv) (F m)/\RI wr (.slice bz K9 bv) PI/\Kp w wr/\U<wr.heap.size) (λx _=>(K9 - (intOf x).toNat))
        case atStart=>exact⟨0,JW _,rfl,by rw[Z.out];exact HO.out,a9.out,HK.out,bw⟩
        case round=>
         obtain⟨m,H,rfl,ho,af,A,az⟩:=hrel;by_cases s:m<K9
         ·obtain⟨g1,o1,rfl,_,aZ⟩:=af.at m s
          have h1:=aZ m s;rw[Q.out m s] at h1;have bS:=G.out m s;have ah:=HT.out m s;have aq:=E.out m;have am:=an.out m s;have i1:IntKind.i64.wrap ((m:Int)+1)=(m:Int)+1:=JI _ (by omega);have i4:((PT.getD m 0:Nat):Int)<(O:Int):=by omega
          have i5:(m:Int)<(K9:Int):=by omega
          obtain⟨bY,bZ,ee,_,_,_,_,a0⟩:=ho.form (by omega);simp only[JR,Ky,Lv] at ee;obtain⟨⟨rfl,_,_⟩,bm,rfl⟩:=ee;clear bm;obtain⟨p,q,hh,C,a1,a2,a3⟩:=a0 (PT.getD m 0) (by omega);have c0:=C.kind;have c1:=C.name;have c2:=C.pubC;have c3:=C.unC;have c4:=C.hashC;have HN:=JE C.2;have aK:=JE (JN a1 a3);have aF:=JE af;have aH:=JE ho;have bb:=JE C;obtain⟨xp,np,ab,rfl⟩:=aA C.2.pub;obtain⟨xq,nq,aQ,rfl⟩:=C.2.un.sl;obtain⟨xh,nh,ad,rfl⟩:=aA C.2.hash;clear HT E G Q aZ Z P HO a9 HK an a0 C a1 a2 a3 af ho;generalize PT.getD m 0=X at *;by_cases f:(ats (F m) X).kind=2
          ·have e9:F (m+1)=(F m).set X (ic (ats (F m) X) k):=by rw[ah];exact if_pos f
           have E9:=JE e9;have ao:=JE (λW (hW:Kp wr W)=>wQ (.slice xq nq aQ) _ (k:Int) W (HN.out.un.kp hW) am);rw[f] at c0;have be:=JE f;obtain⟨NM,aC⟩:∃ NM,(ats (F m) X).name=NM:=⟨_,rfl⟩;have ba:=JE aC;rw[aC] at c1;clear ah e9 f am aC;go_wp2_with fail;refine(ao.out _ ((NQ _).alloc _)).mono ?_;rintro _ w3 ⟨⟨r,rfl,o3⟩,k3⟩;have bx:=(Oa wr 81 #[.int .i64 2,.int .i64 NM,.slice xp np ab,.slice xq nq aQ,.slice xh nh ad]).kp k3;have bc:Hid (Kp wr w3):=((NQ wr).alloc _).trans k3;have d3:=bx.cell 3;have f3:=bx.frozen 3;have J:=bx.set 3 r;have d:Hid (Kp wr (w3.setCell ⟨wr.heap.size,3,none⟩ r)):=bc.out.setNew (JO _) r;have bf:=JE (o3.apart (v:=.slice (some ⟨U,0,none⟩) O cv) (λg B=>by cases B;simp;omega));have r3:RI (w3.setCell ⟨wr.heap.size,3,none⟩ r) r (jC (ats (F m) X).un (k:Int)):=o3.ri.grown9 (v:=.slice (some ⟨wr.heap.size,0,none⟩) 0 0) ⟨rfl,rfl,rfl,by simp,λz hz bn=>heap_setCell_other w3 ⟨wr.heap.size,3,none⟩ z r (λe=>bn (by rw[e];rfl))⟩ (o3.apart (λg B=>by cases B;simp));have a8:=JE r3;obtain⟨xr,nr,R,rfl⟩:=o3.ri.sl;have aI:=JE (aH.out.kp d.out);clear ao o3 k3 r3 bx;go_wp2_with fail;obtain⟨d0,d1,d2,d4,d5⟩:_/\_/\_/\_/\_:=⟨J.cell 0,J.cell 1,J.cell 2,J.cell 3,J.cell 4⟩;have bp:=d.out.cell h1;have I:=aI.out.there X (by omega);have j0:=(I 0 (by omega)).2;have j1:=(I 1 (by omega)).2;have j2:=(I 2 (by omega)).2;have j3:=(I 3 (by omega)).2;have j4:=(I 4 (by omega)).2;have q0:=d.out.cell c0;have q1:=d.out.cell c1;have q2:=d.out.cell c2;have q3:=d.out.cell c3;have q4:=d.out.cell c4;rw[Mj] at j0;have ae:=aI.out.stored X (by omega) (ic (ats (F m) X) k) (.slice xp np ab) (.slice xr nr R) (.slice xh nh ad) ⟨HN.out.pub.kp d.out,a8.out,HN.out.hash.kp d.out⟩ aK.out.1 bf.out aK.out.2;rw[<-E9.out] at ae;have aU:cj (ic (ats (F m) X) k) (.slice xp np ab) (.slice xr nr R) (.slice xh nh ad)=[.int .i64 2,.int .i64 NM,.slice xp np ab,.slice xr nr R,.slice xh nh ad]:=by
            rw[<-ba.out,<-be.out];rfl
           rw[aU] at ae;have bC:=JE ae;have bF:=JE (JN (A.trans d.out) A.size);have bB:Hid (U<(w3.setCell ⟨wr.heap.size,3,none⟩ (.slice xr nr R)).heap.size):=JV az d.out.size;have bD:=JE (aF.out.kp d.out);clear I ae aU aI d bc a8 bf HN aK aF aH bb h1 c0 c1 c2 c3 c4 A az E9 be ba J d3 f3;obtain⟨W4,bt⟩:∃ W4,w3.setCell ⟨wr.heap.size,3,none⟩ (.slice xr nr R)=W4:=⟨_,rfl⟩;simp only[bt] at *;go_region
           clear d0 d1 d2 d4 d5 bp j0 j1 j2 j3 j4 q0 q1 q2 q3 q4;go_wp2_with fail;have D:=bC.out;go_roundw
           case rel=>exact⟨m+1,by omega,by go_num,D.1.kp (NQ _).drew,(bD.out.grown9 (v:=.slice (some ⟨U,0,none⟩) O cv) D.2 au.out).kp (NQ _).drew,(NS (v:=.slice (some ⟨U,0,none⟩) O cv) bF.out.1 D.2 (λk hk=>by cases hk;exact b1)).drew,JV bB.out D.2.size⟩
           case measure=>simp[intOf];omega
          ·have e9:F (m+1)=F m:=by rw[ah];exact if_neg f
           have bK:((ats (F m) X).kind==2)=false:=JL.2 f;have bG:=JE e9;have bd:=JE (JN A az);generalize (ats (F m) X).kind=KD at *;generalize (ats (F m) X).name=NM at *;clear ah e9 A;go_wp2_with fail;go_roundw
           case rel=>exact⟨m+1,by omega,by go_num,by rw[bG.out];exact aH.out.kp ((NQ _).alloc _),aF.out.kp ((NQ _).alloc _),bd.out.1.alloc _,by simp;have:=bd.out.2;omega⟩
           case measure=>simp[intOf];omega
         ·obtain rfl:m=K9:=by omega
          rw[P.out] at ho;have O5:=JE (JN ho A);clear HT E G Q P af ho A;go_wp2_with fail;go_ret3
          exact⟨⟨_,by rw[HE.out.1,HE.out.2.2,aW.out] <;> rfl,by rw[HE.out.2.1];exact O5.out.1.nl,λ_=>by rw[HE.out.2.1];exact O5.out.1⟩,O5.out.2⟩
     ·obtain rfl:k=L:=by omega
      have aW:=JE hgk;have ce:((k:Int)==(k:Int))=true:=beq_self_eq_true _;clear aa H2;by_cases B:k=1024
      ·have HE:=JE (ar.out (by rw[hgk];exact B))
       clear ar aM HR V hgk HL;subst B;go_wp2_with fail;refine aJ.out.mono ?_;rintro _ _ ⟨rfl,rfl⟩;go_wp2_with fail;go_ret3
       exact⟨⟨_,by rw[HE.out.1,HE.out.2.2] <;> rfl,by rw[HE.out.2.1];exact HU.out,λh=>by rw[HE.out.1] at h;exact absurd h (by decide)⟩,NQ _⟩
      ·have HE:=JE (aM.out (by rw[hgk];exact B))
       obtain⟨x1,x2,x3,x4,x5⟩:=HR.out.wide;have ag:=HR.out.gap1024 (by rw[hgk];exact B);have aj:=HR.out.un_len;rw[hgk] at x3;have aG:=JE (λW v (h:NL W v ((aP t).set (2*k) (aN name pub)))=>sk v _ (wK t K) k W h ag (by rw[Km];exact x1) x3);obtain⟨y1,y2,y3⟩:=lS (t:=(aP t).set (2*k) (aN name pub)) (i:=k) ag (by rw[Km];exact x1) x3;have aR:pathT ((aP t).set (2*k) (aN name pub)) k=pathT (aP t) k:=xj (Km ..) k;have al:iG t name pub=(pathT ((aP t).set (2*k) (aN name pub)) k).foldl (λo x=>da o k x) ((aP t).set (2*k) (aN name pub)):=by
        rw[aR];unfold iG;rw[hgk]
       have aw:(aP t).length<=100000/\2*k<(aP t).length:=by
        have:=bP ag;have:=bi (wK t K);have:=bE (wK t K);omega
       have ax:∀ m,m<wK t K->ats (((pathT ((aP t).set (2*k) (aN name pub)) k).take m).foldl (λo x=>da o k x) ((aP t).set (2*k) (aN name pub))) ((pathT ((aP t).set (2*k) (aN name pub)) k).getD m 0)=ats t ((pathT ((aP t).set (2*k) (aN name pub)) k).getD m 0):=λm H=>by
        have aT:(pathT ((aP t).set (2*k) (aN name pub)) k).Nodup:=by rw[y1];exact qX _ _
        have ay:m<(pathT ((aP t).set (2*k) (aN name pub)) k).length:=by rw[y3];exact H
        have aY:(pathT ((aP t).set (2*k) (aN name pub)) k).getD m 0=(pathT ((aP t).set (2*k) (aN name pub)) k)[m]:=by rw[JF,JG ay];rfl
        rw[ul _ _ _ _ (aT.sublist (List.take_sublist _ _)) (λy hy=>by
         obtain⟨j,hj,rfl⟩:=Ld (List.mem_of_mem_take hy);have:=y2 j hj;rwa [JF,JG hj] at this),if_neg,fm _ _ _ _ aw.2,if_neg,x4]
        ·rw[aY]
         have:=ik (K:=wK t K) (i:=k) (x:=(pathT ((aP t).set (2*k) (aN name pub)) k)[m]) (by rw[<-y1];exact Ko ay);omega
        ·rintro⟨ak,_⟩
         rw[aY] at ak;obtain⟨j,hj,e⟩:=Ld ak;rw[Ki] at hj;rw[MG] at e;exact(Lc.1 aT) j m (by omega) ay (by omega) e
       have l:((dH t=lvs t->aP t=t++List.replicate (t.length+1) aX)/\(dH t≠lvs t->aP t=t)):=by
        unfold aP;exact⟨λh=>if_pos h,λh=>if_neg h⟩
       rw[hgk,bu.out,aL.out] at l;have HT:Hid (∀ m,m<wK t K->((pathT ((aP t).set (2*k) (aN name pub)) k).take (m+1)).foldl (λo x=>da o k x) ((aP t).set (2*k) (aN name pub))=da (((pathT ((aP t).set (2*k) (aN name pub)) k).take m).foldl (λo x=>da o k x) ((aP t).set (2*k) (aN name pub))) k ((pathT ((aP t).set (2*k) (aN name pub)) k).getD m 0)):=λm H=>pM _ _ _ m 0 (by rw[y3];exact H)
       have P:Hid (((pathT ((aP t).set (2*k) (aN name pub)) k).take (wK t K)).foldl (λo x=>da o k x) ((aP t).set (2*k) (aN name pub))=iG t name pub):=by
        unfold Hid;rw[al,Ku (by rw[y3];exact JO _)]
       have Z:Hid (((pathT ((aP t).set (2*k) (aN name pub)) k).take 0).foldl (λo x=>da o k x) ((aP t).set (2*k) (aN name pub))=(aP t).set (2*k) (aN name pub)):=rfl;have E:Hid (∀ m,(((pathT ((aP t).set (2*k) (aN name pub)) k).take m).foldl (λo x=>da o k x) ((aP t).set (2*k) (aN name pub))).length=(aP t).length):=λm=>by rw[qY,Km]
       have Q:=JE (λm h=>pL (pathT ((aP t).set (2*k) (aN name pub)) k) m h);have aO:Hid (((pathT ((aP t).set (2*k) (aN name pub)) k).map fun(n:Nat)=>(n:Int)).length=wK t K):=by unfold Hid;rw[Kw,y3]
       have G:Hid (∀ m,m<wK t K->(pathT ((aP t).set (2*k) (aN name pub)) k).getD m 0<(aP t).length):=λm H=>by
        have:=y2 m (by rw[y3];exact H);rwa [Km] at this
       obtain⟨F,hF⟩:∃ F:Nat->List Nod,F=λm=>((pathT ((aP t).set (2*k) (aN name pub)) k).take m).foldl (λo x=>da o k x) ((aP t).set (2*k) (aN name pub)):=⟨_,rfl⟩
       have a7:∀ m,((pathT ((aP t).set (2*k) (aN name pub)) k).take m).foldl (λo x=>da o k x) ((aP t).set (2*k) (aN name pub))=F m:=λm=>by rw[hF]
       simp only[a7] at HT Z P E ax;have an:Hid (∀ m,m<wK t K->(ats (F m) ((pathT ((aP t).set (2*k) (aN name pub)) k).getD m 0)).un.length<=100000):=λm H=>by
        rw[ax m H];have:=aj ((pathT ((aP t).set (2*k) (aN name pub)) k).getD m 0);omega
       rw[y3] at Q;clear hF a7 al aR y1 y2 y3 ax aj x2 x4 x5;generalize (pathT ((aP t).set (2*k) (aN name pub)) k).map (fun(n:Nat)=>(n:Int))=PI at *;generalize pathT ((aP t).set (2*k) (aN name pub)) k=PT at *;obtain⟨T0,aB⟩:∃ T0,(aP t).set (2*k) (aN name pub)=T0:=⟨_,rfl⟩;have M:=JE aB;rw[aB] at aG Z;clear aB;generalize iG t name pub=b0 at *;obtain⟨bk,ai,T⟩:=JN x1 aw;clear x1 aw bk;obtain⟨WT,a4⟩:∃ WT,aP t=WT:=⟨_,rfl⟩;rw[a4] at l ai T E G M;obtain⟨K9,a5⟩:∃ K9,wK t K=K9:=⟨_,rfl⟩;rw[a5] at ag x3 HT P Q aO G an;clear a4 a5 x3;have i2:IntKind.i64.wrap (2*(k:Int))=((2*k:Nat):Int):=by rw[JI _ (by omega)];omega
       have bq:¬(k:Int)=1024:=by omega
       have bR:((k:Int)==1024)=false:=JL.2 bq;have bj:=JE (l.1 rfl);have bQ:IntKind.i64.wrap (2*(N:Int))=((2*N:Nat):Int):=by rw[JI _ (by omega)];omega
       have ca:IntKind.i64.wrap (((2*N:Nat):Int)+1)=((2*N+1:Nat):Int):=by rw[JI _ (by omega)];omega
       clear l ar aM HR V hgk;go_wp2_with fail;refine aJ.out.mono ?_;rintro _ _ ⟨rfl,rfl⟩;go_wp2_with(at_builtin;refine mH (o:=⟨some 51,_,_,_,_,_⟩) S rfl _ _ rfl w.heap.size _ [] rfl (NO.empty 81 w) _ t rfl (HU.out.apart ((NQ _).alloc _) (λg B=>by cases B;exact JO _)) (by have:=aL.out;simp;omega) (by simp) ?_;intro v1 w1 o1 g1 _;have k1:Kp w w1:=NS ((NQ _).alloc _) g1 (λk hk=>by cases hk;exact JO _);rw[La] at o1)
       have bg:=JE k1;have O1:=JE (JN o1 k1);clear o1 g1 k1;go_loopw[13] (λv wr=>∃ m,m<=N+1/\NO 81 wr w.heap.size v (t++List.replicate m aX)/\Kp w wr) (λv _=>2*N+1 - (match v with|.slice _ n _=>n|_=>0))
       case atStart=>exact⟨0,JW _,by simpa using O1.out.1,O1.out.2⟩
       case round=>
        obtain⟨m,H,o,Y⟩:=hrel;have aq:=JE (HL.out wr Y);have aV:(t++List.replicate m aX).length=N+m:=by rw[JQ,Lb,aL.out]
        obtain⟨av,cv,e9,_,_⟩:=o.nl.shape;subst e9;rw[aV] at o ⊢;have OK:=JE (JN o Y);by_cases s:m<N+1
        ·have bX:((N+m:Nat):Int)<((2*N+1:Nat):Int):=by omega
         have cd:=Y.size;have b6:Hid (NAp (wr.alloc (.cells #[.int .i64 0,.int .i64 0,.slice none 0 0,.slice none 0 0,.slice none 0 0] 81)) (.slice av (N+m) cv) (.slice (some ⟨wr.heap.size,0,none⟩) 1 1) [aX]):=(NL.lit1 wr 81 aX (.slice none 0 0) (.slice none 0 0) (.slice none 0 0) ⟨bU _,RI.nil _,bU _⟩).apart_blank DZ;have b5:=JE (DY t m);generalize t++List.replicate m aX=TM at *;clear O1 bg HL aJ HT P Z E Q aO G an M bj;go_wp2_with(first
          | (go_at_call 31;refine aq.out.mono ?_;rintro _ _ ⟨rfl,rfl⟩)
          | (at_builtin;refine mH (o:=⟨some 68,_,_,_,_,_⟩) S rfl _ _ rfl w.heap.size _ TM rfl (OK.out.1.kp ((NQ wr).alloc _)) _ [aX] rfl b6.out (by simp;omega) (by simp;omega) ?_;intro v5 w5 o5 g5 _;have k5:Kp w w5:=NS (OK.out.2.alloc _) g5 OK.out.1.own_ge))
         rw[b5.out] at o5;have bJ:(t++List.replicate (m+1) aX).length=N+(m+1):=by rw[JQ,Lb,aL.out]
         obtain⟨cg,cf,e9,_,_⟩:=o5.nl.shape;rw[bJ] at e9;subst e9;have O9:=JE (JN o5 k5);clear o5 k5 g5 o Y;go_roundw
         case rel=>exact⟨m+1,by omega,O9.out.1,O9.out.2⟩
         case measure=>show 2*N+1 - (N+(m+1))<2*N+1 - (N+m);omega
        ·obtain rfl:m=N+1:=by omega
         have bX:¬((N+(N+1):Nat):Int)<((2*N+1:Nat):Int):=by omega
         clear o Y O1 bg HL aJ;rw[<-bj.out] at OK;go_wp2_with fail;refine aq.out.mono ?_;rintro _ _ ⟨rfl,rfl⟩;obtain⟨o,Y⟩:=OK.out;clear OK aq aV;obtain⟨U,cb,ef,b1,b2,b3,b4,_⟩:=o.form (by omega);simp only[JR] at ef;obtain⟨rfl,aS,rfl⟩:=ef;rw[aS] at o ⊢;have bW:¬((WT.length:Nat):Int)<((2*N+1:Nat):Int):=by omega
         clear aS;obtain⟨O,bs⟩:∃ O,WT.length=O:=⟨_,rfl⟩;rw[bs] at o b3 ai T E G bW ⊢;have i3:((2*k:Nat):Int)<(O:Int):=by omega
         have bA:=JE (hV.out.kp Y);have bH:=JE (hV.out.apart (v:=.slice (some ⟨U,0,none⟩) O cv) (λg B=>by cases B;exact b1));have bl:=JE Y;obtain⟨K2,a6⟩:∃ K2,2*k=K2:=⟨_,rfl⟩;rw[a6] at i2 i3 T M;clear a6;go_wp2_with(refine lm iZ rfl rfl (.tmp 75) (.tmp 74) rfl w.heap.size U cv O WT o K2 (by omega) (aN name pub) (.slice ap pub.length cp) (.slice none 0 0) (.slice none 0 0) rfl rfl ⟨bA.out,RI.nil _,bU _⟩ bH.out (NZ _ _ _) (NZ _ _ _) ?_;intro w5 o5 g5)
         have k5:Kp w w5:=NS (v:=.slice (some ⟨U,0,none⟩) O cv) Y g5 (λk hk=>by cases hk;exact b1);have aE:U<w5.heap.size:=JV b2 g5.size;rw[M.out] at o5;have K5:=JE k5;clear o g5 Y bl;go_wp2_with fail;refine(aG.out w5 _ o5.nl).mono ?_;rintro _ w2 ⟨⟨pv,rfl,o2⟩,k2⟩;have au:=JE (o2.apart (v:=.slice (some ⟨U,0,none⟩) O cv) (λg B=>by cases B;exact aE));have r2:=o2.ri;obtain⟨bz,bv,e2,p2,s2⟩:=r2.shape;subst e2;rw[aO.out] at r2 p2 au ⊢;have a9:=JE r2;have HO:=JE (o5.kp k2);have HK:=JE (k5.trans k2);have bw:=JV aE k2.size;clear aG o5 o2 r2 k5 k2 K5 b2 aE;go_wp2_with fail;go_loopw[15] (λx wr=>∃ m:Nat,m<=K9/\x=.int .i64 (m:Int)/\NO 81 wr w.heap.size (.slice (some ⟨U,0,none⟩) O cv) (F m)/\RI wr (.slice bz K9 bv) PI/\Kp w wr/\U<wr.heap.size) (λx _=>(K9 - (intOf x).toNat))
         case atStart=>exact⟨0,JW _,rfl,by rw[Z.out];exact HO.out,a9.out,HK.out,bw⟩
         case round=>
          obtain⟨m,H,rfl,ho,af,A,az⟩:=hrel;by_cases s:m<K9
          ·obtain⟨g1,o1,rfl,_,aZ⟩:=af.at m s
           have h1:=aZ m s;rw[Q.out m s] at h1;have bS:=G.out m s;have ah:=HT.out m s;have aq:=E.out m;have am:=an.out m s;have i1:IntKind.i64.wrap ((m:Int)+1)=(m:Int)+1:=JI _ (by omega);have i4:((PT.getD m 0:Nat):Int)<(O:Int):=by omega
           have i5:(m:Int)<(K9:Int):=by omega
           obtain⟨bY,bZ,ee,_,_,_,_,a0⟩:=ho.form (by omega);simp only[JR,Ky,Lv] at ee;obtain⟨⟨rfl,_,_⟩,bm,rfl⟩:=ee;clear bm;obtain⟨p,q,hh,C,a1,a2,a3⟩:=a0 (PT.getD m 0) (by omega);have c0:=C.kind;have c1:=C.name;have c2:=C.pubC;have c3:=C.unC;have c4:=C.hashC;have HN:=JE C.2;have aK:=JE (JN a1 a3);have aF:=JE af;have aH:=JE ho;have bb:=JE C;obtain⟨xp,np,ab,rfl⟩:=aA C.2.pub;obtain⟨xq,nq,aQ,rfl⟩:=C.2.un.sl;obtain⟨xh,nh,ad,rfl⟩:=aA C.2.hash;clear HT E G Q aZ Z P HO a9 HK an a0 C a1 a2 a3 af ho;generalize PT.getD m 0=X at *;by_cases f:(ats (F m) X).kind=2
           ·have e9:F (m+1)=(F m).set X (ic (ats (F m) X) k):=by rw[ah];exact if_pos f
            have E9:=JE e9;have ao:=JE (λW (hW:Kp wr W)=>wQ (.slice xq nq aQ) _ (k:Int) W (HN.out.un.kp hW) am);rw[f] at c0;have be:=JE f;obtain⟨NM,aC⟩:∃ NM,(ats (F m) X).name=NM:=⟨_,rfl⟩;have ba:=JE aC;rw[aC] at c1;clear ah e9 f am aC;go_wp2_with fail;refine(ao.out _ ((NQ _).alloc _)).mono ?_;rintro _ w3 ⟨⟨r,rfl,o3⟩,k3⟩;have bx:=(Oa wr 81 #[.int .i64 2,.int .i64 NM,.slice xp np ab,.slice xq nq aQ,.slice xh nh ad]).kp k3;have bc:Hid (Kp wr w3):=((NQ wr).alloc _).trans k3;have d3:=bx.cell 3;have f3:=bx.frozen 3;have J:=bx.set 3 r;have d:Hid (Kp wr (w3.setCell ⟨wr.heap.size,3,none⟩ r)):=bc.out.setNew (JO _) r;have bf:=JE (o3.apart (v:=.slice (some ⟨U,0,none⟩) O cv) (λg B=>by cases B;simp;omega));have r3:RI (w3.setCell ⟨wr.heap.size,3,none⟩ r) r (jC (ats (F m) X).un (k:Int)):=o3.ri.grown9 (v:=.slice (some ⟨wr.heap.size,0,none⟩) 0 0) ⟨rfl,rfl,rfl,by simp,λz hz bn=>heap_setCell_other w3 ⟨wr.heap.size,3,none⟩ z r (λe=>bn (by rw[e];rfl))⟩ (o3.apart (λg B=>by cases B;simp));have a8:=JE r3;obtain⟨xr,nr,R,rfl⟩:=o3.ri.sl;have aI:=JE (aH.out.kp d.out);clear ao o3 k3 r3 bx;go_wp2_with fail;obtain⟨d0,d1,d2,d4,d5⟩:_/\_/\_/\_/\_:=⟨J.cell 0,J.cell 1,J.cell 2,J.cell 3,J.cell 4⟩;have bp:=d.out.cell h1;have I:=aI.out.there X (by omega);have j0:=(I 0 (by omega)).2;have j1:=(I 1 (by omega)).2;have j2:=(I 2 (by omega)).2;have j3:=(I 3 (by omega)).2;have j4:=(I 4 (by omega)).2;have q0:=d.out.cell c0;have q1:=d.out.cell c1;have q2:=d.out.cell c2;have q3:=d.out.cell c3;have q4:=d.out.cell c4;rw[Mj] at j0;have ae:=aI.out.stored X (by omega) (ic (ats (F m) X) k) (.slice xp np ab) (.slice xr nr R) (.slice xh nh ad) ⟨HN.out.pub.kp d.out,a8.out,HN.out.hash.kp d.out⟩ aK.out.1 bf.out aK.out.2;rw[<-E9.out] at ae;have aU:cj (ic (ats (F m) X) k) (.slice xp np ab) (.slice xr nr R) (.slice xh nh ad)=[.int .i64 2,.int .i64 NM,.slice xp np ab,.slice xr nr R,.slice xh nh ad]:=by
             rw[<-ba.out,<-be.out];rfl
            rw[aU] at ae;have bC:=JE ae;have bF:=JE (JN (A.trans d.out) A.size);have bB:Hid (U<(w3.setCell ⟨wr.heap.size,3,none⟩ (.slice xr nr R)).heap.size):=JV az d.out.size;have bD:=JE (aF.out.kp d.out);clear I ae aU aI d bc a8 bf HN aK aF aH bb h1 c0 c1 c2 c3 c4 A az E9 be ba J d3 f3;obtain⟨W4,bt⟩:∃ W4,w3.setCell ⟨wr.heap.size,3,none⟩ (.slice xr nr R)=W4:=⟨_,rfl⟩;simp only[bt] at *;go_region
            clear d0 d1 d2 d4 d5 bp j0 j1 j2 j3 j4 q0 q1 q2 q3 q4;go_wp2_with fail;have D:=bC.out;go_roundw
            case rel=>exact⟨m+1,by omega,by go_num,D.1.kp (NQ _).drew,(bD.out.grown9 (v:=.slice (some ⟨U,0,none⟩) O cv) D.2 au.out).kp (NQ _).drew,(NS (v:=.slice (some ⟨U,0,none⟩) O cv) bF.out.1 D.2 (λk hk=>by cases hk;exact b1)).drew,JV bB.out D.2.size⟩
            case measure=>simp[intOf];omega
           ·have e9:F (m+1)=F m:=by rw[ah];exact if_neg f
            have bK:((ats (F m) X).kind==2)=false:=JL.2 f;have bG:=JE e9;have bd:=JE (JN A az);generalize (ats (F m) X).kind=KD at *;generalize (ats (F m) X).name=NM at *;clear ah e9 A;go_wp2_with fail;go_roundw
            case rel=>exact⟨m+1,by omega,by go_num,by rw[bG.out];exact aH.out.kp ((NQ _).alloc _),aF.out.kp ((NQ _).alloc _),bd.out.1.alloc _,by simp;have:=bd.out.2;omega⟩
            case measure=>simp[intOf];omega
          ·obtain rfl:m=K9:=by omega
           rw[P.out] at ho;have O5:=JE (JN ho A);clear HT E G Q P af ho A;go_wp2_with fail;go_ret3
           exact⟨⟨_,by rw[HE.out.1,HE.out.2.2,aW.out] <;> rfl,by rw[HE.out.2.1];exact O5.out.1.nl,λ_=>by rw[HE.out.2.1];exact O5.out.1⟩,O5.out.2⟩
 ·have e1:eG t name pub=1:=by unfold eG;rw[if_neg H]
  obtain⟨e2,e3⟩:=sD 1 e1 (by decide);rw[e1,e2,e3];rw[Kb H] at HM;clear hv hr H e1 e2 e3 HL z2;go_enter func38,ntmps38;go_wp2_with fail;refine HM.out.mono ?_;rintro _ _ ⟨rfl,rfl⟩;go_wp2_with fail;refine HF.out.mono ?_;rintro _ _ ⟨rfl,rfl⟩;go_wp2_with fail;go_ret3
  exact⟨⟨_,rfl,HU.out,λh=>absurd h (by decide)⟩,NQ _⟩
theorem Eb (u v:Value)(t:List Nod)(K:Nat)(name:Int)(pub:List UInt8)(w:World)(b:NL w u t)(a:Rd w v pub)(c:aD t K):
  Calls prog 38 #[u,.int .i64 name,v] w λe w'=>(∃ r,e=.returned (.tuple #[r,.int .i64 (jf t name pub),.int .i64 (eG t name pub)])/\NL w' r (iH t name pub))/\Kp w w':=
 (Ea u v t K name pub w b a c).mono λ_ _ ⟨⟨r,g,f,_⟩,d⟩=>⟨⟨r,g,f⟩,d⟩
theorem xS (u:Value)(t:List Nod)(w:World)(i:NL w u t)(l:t.length<=100000):
  Calls prog 143 #[u] w λe w'=>e=.returned (.int .i64 ((jb t:Nat):Int))/\w=w':=by
 obtain⟨a,c,rfl,q,p⟩:=i.shape;obtain⟨o,n⟩:=rZ (t:=t) l;have m:IntKind.i64.wrap ((lvs t:Nat):Int)=((lvs t:Nat):Int):=JI _ (by have:=iY (t:=t) l;omega);have f:=JE (xH ((lvs t:Nat):Int) w);by_cases b:cH ((lvs t:Nat):Int)=true
 ·rw[show gF ((lvs t:Nat):Int)=2*((lvs t:Nat):Int) - 1 from if_pos b,show gD ((lvs t:Nat):Int)=0 from if_pos b] at f
  by_cases j:2*lvs t=t.length+1
  ·rw[show jb t=lvs t from if_pos ⟨b,j⟩]
   have k:¬(2*((lvs t:Nat):Int) - 1≠(t.length:Int)):=by omega
   have g:(2*((lvs t:Nat):Int) - 1 != (t.length:Int))=false:=bne_eq_false_iff_eq.2 (by omega);have d:2*((lvs t:Nat):Int) - 1=(t.length:Int):=by omega
   rw[d] at f;clear b j i k g d;generalize ((lvs t:Nat):Int)=L at *;go_enter func143,ntmps143;go_wp2_with fail;refine f.out.mono ?_;rintro _ _ ⟨rfl,rfl⟩;go_wp2_with fail;go_ret;exact⟨rfl,rfl⟩
  ·rw[show jb t=0 from if_neg λh=>j h.2]
   have g:(2*((lvs t:Nat):Int) - 1 != (t.length:Int))=true:=Lt.2 (by omega);have d:¬2*((lvs t:Nat):Int) - 1=(t.length:Int):=by omega
   clear b j i;generalize 2*((lvs t:Nat):Int) - 1=M at *;generalize ((lvs t:Nat):Int)=L at *;go_enter func143,ntmps143;go_wp2_with fail;refine f.out.mono ?_;rintro _ _ ⟨rfl,rfl⟩;go_wp2_with fail;go_ret;exact⟨rfl,rfl⟩
 ·rw[show jb t=0 from if_neg λh=>b h.1]
  rw[show gF ((lvs t:Nat):Int)=0 from if_neg b,show gD ((lvs t:Nat):Int)=1 from if_neg b] at f;clear b i;generalize ((lvs t:Nat):Int)=L at *;go_enter func143,ntmps143;go_wp2_with fail;refine f.out.mono ?_;rintro _ _ ⟨rfl,rfl⟩;go_wp2_with fail;go_ret;exact⟨rfl,rfl⟩
theorem xT (u:Value)(t:List Nod)(K:Nat)(i:Int)(w:World)(l:NL w u t)(d:aD t K):
  Calls prog 142 #[u,.int .i64 i] w λe w'=>e=.returned (.bool (decide (bc t i)))/\w=w':=by
 obtain⟨s,r,o⟩:=d.small;have x:=JE (xS u t w l (by omega));rw[(nY d.le d.len).1] at x;have g:=d.lv;have f:=bP d.le;obtain⟨a,c,rfl,p1,E⟩:=l.shape;by_cases v:0<=i
 ·obtain⟨k,rfl⟩:=Kc v
  by_cases m:k<2 ^ K
  ·have j:2*k<t.length:=by omega
   obtain⟨b,B,rfl,_,z⟩:=l.at (2*k) j;obtain⟨p,q,h,y⟩:=z (2*k) j;have H:=y.kind;have D:((ats t (2*k)).kind != 0)=decide (bc t (k:Int)):=by
    by_cases n:(ats t (2*k)).kind=0
    ·rw[n,Kb (λh=>by have:=(d.there_iff k).1 h;rw[n] at this;cases this)];rfl
    ·have m:(ats t (2*k)).kind=1:=by
      rcases d.even k with e|e
      ·rw[e] at n;exact absurd rfl n
      ·exact e.1
     rw[Ke ((d.there_iff k).2 m),m];rfl
   have G:IntKind.i64.wrap (2*(k:Int))=((2*k:Nat):Int):=by rw[JI _ (by omega)];omega
   have F:((2*k:Nat):Int)<(t.length:Int):=by omega
   have C:(k:Int)<((2 ^ K:Nat):Int):=by omega
   generalize decide (bc t (k:Int))=L at *;generalize t.length=N at *;generalize ((2 ^ K:Nat):Int)=A at *;generalize (ats t (2*k)).kind=I at *;generalize 2*k=J at *;clear l d z y m v s r o g f j;go_enter func142,ntmps142;go_wp2_with fail;refine x.out.mono ?_;rintro _ _ ⟨rfl,rfl⟩;go_wp2_with fail;go_ret;exact⟨by rw[<-D] <;> rfl,rfl⟩
  ·rw[Kb (show ¬bc t (k:Int) from λh=>by have:=h.2.1;omega)]
   have C:¬(k:Int)<((2 ^ K:Nat):Int):=by omega
   generalize ((2 ^ K:Nat):Int)=A at *;clear l d m s r o g f;go_enter func142,ntmps142;go_wp2_with fail;refine x.out.mono ?_;rintro _ _ ⟨rfl,rfl⟩;go_wp2_with fail;go_ret;exact⟨rfl,rfl⟩
 ·rw[Kb (show ¬bc t i from λh=>v h.1)]
  clear l d s r o g f;generalize ((2 ^ K:Nat):Int)=A at *;go_enter func142,ntmps142;go_wp2_with fail;go_ret;exact⟨rfl,rfl⟩
theorem EM (x a:Int)(w:World):
  Calls prog 146 #[.int .i64 x,.int .i64 a] w λe w'=>e=.returned (.int .i64 (if x<a then 1 else if a<x then 0 else 1))/\w=w':=by
 by_cases h:a<x
 ·have b:¬x<a:=by omega
  rw[if_neg b,if_pos h];clear b;go_enter func146,ntmps146;go_wp2_with fail;go_ret;exact⟨rfl,rfl⟩
 ·have e:(if x<a then (1:Int) else if a<x then 0 else 1)=1:=by split <;> simp[h]
  rw[e];clear e;go_enter func146,ntmps146;go_wp2_with fail;go_ret;exact⟨rfl,rfl⟩
theorem sQ (x a:Int)(w:World)(b:Tab w):
  Calls prog 177 #[.int .i64 x,.int .i64 a] w λe w'=>e=.returned (.int .i64 (if a=1 then fl x else fc x))/\w=w':=by
 by_cases h:a=1
 ·subst h
  rw[if_pos rfl];have c:=JE (xN x w b);generalize fl x=V at *;generalize chE x=E at *;clear b;go_enter func177,ntmps177;go_wp2_with fail;refine c.out.mono ?_;rintro _ _ ⟨rfl,rfl⟩;go_wp2_with fail;go_ret;exact⟨rfl,rfl⟩
 ·rw[if_neg h]
  have d:=JE (sL x w b);have f:(a==1)=false:=JL.2 h;generalize fc x=V at *;generalize chE x=E at *;clear b;go_enter func177,ntmps177;go_wp2_with fail;refine d.out.mono ?_;rintro _ _ ⟨rfl,rfl⟩;go_wp2_with fail;go_ret;exact⟨rfl,rfl⟩
theorem Rd.bytesIn {a:Option Addr}{l:List UInt8}(h:Rd w (.slice a l.length c) l):Lib.BytesIn w a l.length (l.map λb=>(b.toNat:Int)):=λj=>by
 obtain⟨b,d,e,_,g⟩:=h.at 0 j;refine⟨b,d,e,λi f=>?_⟩;rw[g i f,JF,JG f,JF,KX,JG f];rfl
theorem yH (l:List UInt8):Lib.bytesOf (l.map λb=>(b.toNat:Int))=l:=by
 unfold Lib.bytesOf;rw[List.map_map];conv=>rhs;rw[<-List.map_id l]
 refine Ni λb _=>?_
 simp
theorem mf (u v:Value)(l m:List UInt8)(w:World)(c:Rd w u l)(a:Rd w v m):
  Calls prog 52 #[u,v] w λe w'=>e=.returned (.bool (decide (l=m)))/\Kp w w':=by
 obtain⟨h,f,rfl,p1,j⟩:=c.shape;obtain⟨g,d,rfl,p2,i⟩:=a.shape;refine(bytes_Equal_all h g l.length f m.length d (l.map λb=>(b.toNat:Int)) (m.map λb=>(b.toNat:Int)) w (Kw ..) (Kw ..) c.bytesIn a.bytesIn).mono ?_;rintro e w' ⟨rfl,rfl⟩;rw[yH,yH];refine⟨?_,NQ _⟩;by_cases e:l=m
 ·rw[Ke e,e];simp
 ·rw[Kb e];simp[e]
theorem Gj (v:Value)(l:List Int)(w:World)(h:RI w v l)(t:l.length<=1000000):
  Calls prog 174 #[v] w λe w'=>∃ u,e=.returned u/\OI 3 w' w.heap.size u l/\Kp w w':=by
 have S:=gx
 have q:∀ (w:World) (a:Option Addr) (n c n' g:Nat),(binOp .eql 34 (.slice a n c) (.slice none n' g)).run prog w=.ok (.bool a.isNone) w:=λw a n c n' g=>Lib.run_eql_slice_nil w _ _ a n c n' g underlying34
 have p:=h
 obtain⟨a,c,rfl,x,s⟩:=h.shape
 cases a with
 | none=>
  have f:l=[]:=by
   by_cases o:0<l.length
   ·obtain⟨b,i,e,_⟩:=h.at 0 o
    cases e
   ·exact Kg (by omega)
  subst f
  go_enter func174,ntmps174
  go_wp2_with fail
  go_ret
  exact⟨_,rfl,OI.nil _ _ _,NQ _⟩
 | some a=>
  go_enter func174,ntmps174
  go_wp2_with(at_builtin;refine gG S rfl _ _ rfl w.heap.size _ [] rfl (RI.lit w _ #[] [] 0 rfl (by omega) rfl) _ l rfl (p.kp ((NQ _).alloc _)) ?c1 ?c2 ?_;rotate_right;intro r w2 d m)
  case c1=>simp;omega
  case c2=>simp
  go_ret
  exact⟨_,rfl,by simpa using d,NS (v:=.slice (some ⟨w.heap.size,0,none⟩) 0 0) ((NQ _).alloc _) m (by intro k j;simp[Value.ownBlock] at j;omega)⟩
theorem NL.flat9 {b d n:Nat}(h:NL w (.slice (some ⟨b,d,none⟩) n c) t)(F:0<t.length):
  ∃ us:List Value,us.length=t.length*5/\(∀ z∈us,z.oneCell'=true)/\(∀ j z,us[j]?=some z->w.cell? ⟨b,d+j,none⟩=some z) /\
   ∀ i,i<t.length->∃ p u h,(∀ f,f<5->us[i*5+f]?=(cj (ats t i) p u h)[f]?)/\NIn w (ats t i) p u h:=by
 have E:n=t.length:=by
  obtain⟨I,G,e,_⟩:=h.shape;simp only[JR] at e;exact e.2.1
 obtain⟨H,m,o,_,q⟩:=h.at 0 (by omega);simp only[Ky,Lv,and_true] at o;obtain⟨rfl,rfl⟩:=o;have a:∀ x:Value,aQ (.slice none 0 0) x:=λx g r=>by cases r
 obtain⟨us,B,A,y,s⟩:=NAp.flat (v:=.slice none 0 0) (t:=t) (λi k=>by
  obtain⟨p,u,h,l⟩:=q i (by omega);exact⟨p,u,h,l,a _,a _,a _⟩)
 refine⟨us,B,A,y,λi k=>?_⟩;obtain⟨p,u,h,D,C,_⟩:=s i k;exact⟨p,u,h,D,C⟩
theorem yI (v:Value)(t:List Nod)(w:World)(g:NL w v t)(C:0<t.length)(A:t.length<=1000000):
  Calls prog 105 #[v] w λe w'=>(∃ l us,e=.returned l/\w'.ownsRow w.heap.size 81 5 l t.length us/\(∀ z∈us,z.oneCell'=true) /\
   ∀ i,i<t.length->∃ p u h,(∀ f,f<5->us[i*5+f]?=(cj (ats t i) p u h)[f]?)/\NIn w (ats t i) p u h)/\Kp w w':=by
 have S:=pI;obtain⟨G,O,B,x,s,r,o⟩:=S.hi;have q:∀ (w:World) (a:Option Addr) (n c n' D:Nat),(binOp .eql 22 (.slice a n c) (.slice none n' D)).run prog w=.ok (.bool a.isNone) w:=λw a n c n' D=>Lib.run_eql_slice_nil w _ _ a n c n' D underlying22
 obtain⟨a,c,rfl,Y,H⟩:=g.shape;obtain⟨b,m,rfl,_,_⟩:=g.at 0 C;obtain⟨us,L,K,J,I⟩:=g.flat9 C;have W:=JE J;have V:=JE I;have M:=JE K;have d:=JE (JN A (LS A r));generalize t.length=N at *;have Z:=JE H;have X:=JE L;clear g I J A K C H L;go_enter func105,ntmps105;go_wp2_with(at_builtin;refine wpList_append_own_at _ rfl _ _ 22 rfl w.heap.size 81 G O 5 G.bytes S.ht B x s rfl o (by decide) _ 0 [] rfl (World.ownsRow_made w #[] 0 (JO _) (JW _) (by simp)) ⟨b,m,none⟩ N c us rfl X.out (λj y R=>by rw[Addr.add_mid];exact((NQ w).alloc _).cell (W.out j y R)) M.out (by have:=d.out.1;unfold maxLen;omega) (by have:=d.out.2;rw[Lf];omega) (by simp) ?_;intro l w' F E _ P)
 have T:=JE (NS (w0:=w) (v:=.slice (some ⟨w.heap.size,0,none⟩) 0 0) ((NQ _).alloc _) E (by intro k Q;simp[Value.ownBlock] at Q;omega));have U:=JE F;clear F E P;go_ret;exact⟨⟨_,us,rfl,by simpa using U.out,M.out,V.out⟩,T.out⟩
