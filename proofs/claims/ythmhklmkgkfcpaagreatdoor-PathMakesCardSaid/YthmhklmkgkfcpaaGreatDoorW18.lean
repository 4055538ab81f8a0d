import Derived.Test.YthmhklmkgkfcpaaGreatDoorW16
import Derived.Test.YthmhklmkgkfcpaaGreatDoorW17
set_option linter.all false
set_option maxHeartbeats 8000000
set_option maxRecDepth 100000
namespace Go.Proofs.YthmhklmkgkfcpaaGreatDoor
open Go.Proofs.Tryz Go.RowKit
variable {K c i x:Nat}{s:List UInt8}{t:List Nod}{w:World}
def pubS:List UInt8:=[112,117,98,108,105,99]
def Cz:List UInt8:=[107,101,121]
def CA:List UInt8:=[110,111,110,99,101]
def aJ (seed:List UInt8):List UInt8:=bU seed pubS [] 32
theorem nE (k l c:List UInt8):(bU k l c 32).length=32:=
 (congrArg List.length (lB (n:=32) k (de l c 32) (by omega)).2).trans (mV _ (jf _ _) 32)
theorem CB (k l c:List UInt8):(bU k l c 12).length=12:=
 (congrArg List.length (lB (n:=12) k (de l c 12) (by omega)).2).trans (mV _ (jf _ _) 12)
theorem ib (seed:List UInt8):(aJ seed).length=32:=nE _ _ _
def jm (seed:List UInt8):Int:=if seed.length=32 then 0 else 1
def dE (seed:List UInt8):List UInt8:=if seed.length=32 then aJ seed else []
theorem fk (h:s.length=32):jm s=0/\dE s=aJ s:=⟨if_pos h,if_pos h⟩
theorem jn (h:¬s.length=32):jm s=1/\dE s=[]:=⟨if_neg h,if_neg h⟩
def iN (pub half:List UInt8):List UInt8:=dZ pub half
def wkB (pub half info:List UInt8):List UInt8:=bU (iN pub half) Cz info 32
def wnB (pub half info:List UInt8):List UInt8:=bU (iN pub half) CA info 12
theorem nG (pub half info:List UInt8):okK (wkB pub half info) (wnB pub half info):=⟨nE _ _ _,CB _ _ _⟩
def okW (pub once:List UInt8):Prop:=once.length=32/\pub.length=32
instance (pub once:List UInt8):Decidable (okW pub once):=by unfold okW;infer_instance
def pl (pub once:List UInt8):Int:=if okW pub once then 0 else 1
def fI (pub once:List UInt8):List UInt8:=if okW pub once then aJ once else []
def ic (pub half info b:List UInt8):List UInt8:=eR (wkB pub half info) (wnB pub half info) [] b
def fJ (pub once info b:List UInt8):List UInt8:=if okW pub once then ic pub (aJ once) info b else []
def unE (seed half info b:List UInt8):Int:=if okW half seed then fH (wkB (aJ seed) half info) (wnB (aJ seed) half info) [] b else 1
def unR (seed half info b:List UInt8):List UInt8:=if okW half seed then fW (wkB (aJ seed) half info) (wnB (aJ seed) half info) [] b else []
theorem pm {pub once:List UInt8}(info b:List UInt8)(h:okW pub once):pl pub once=0/\fI pub once=aJ once/\fJ pub once info b=ic pub (aJ once) info b:=⟨if_pos h,if_pos h,if_pos h⟩
theorem pn {pub once:List UInt8}(info b:List UInt8)(h:¬okW pub once):pl pub once=1/\fI pub once=[]/\fJ pub once info b=[]:=⟨if_neg h,if_neg h,if_neg h⟩
theorem vL {seed half:List UInt8}(info b:List UInt8)(h:okW half seed):unE seed half info b=fH (wkB (aJ seed) half info) (wnB (aJ seed) half info) [] b/\unR seed half info b=fW (wkB (aJ seed) half info) (wnB (aJ seed) half info) [] b:=⟨if_pos h,if_pos h⟩
theorem vM {seed half:List UInt8}(info b:List UInt8)(h:¬okW half seed):unE seed half info b=1/\unR seed half info b=[]:=⟨if_neg h,if_neg h⟩
theorem CC {seed half:List UInt8}(info b:List UInt8)(a:seed.length=32)(c:half.length=32):unE seed half info (ic (aJ seed) half info b)=0/\unR seed half info (ic (aJ seed) half info b)=b:=by
 obtain⟨e,d⟩:=vL (seed:=seed) (half:=half) info (ic (aJ seed) half info b) ⟨a,c⟩;rw[e,d];exact Cy [] b (nG _ _ _)
def dT:List UInt8:=[110,111,100,101]
def eG:List UInt8:=[112,97,116,104]
def vN:List UInt8:=[111,110,99,101]
def br (s label:List UInt8):List UInt8:=bU s label [] 32
theorem lH (s a:List UInt8):(br s a).length=32:=nE _ _ _
def cA (t:List Nod)(i k:Nat):List Int:=gR t ((nd k (sq (i / 2 ^ k)):Nat):Int)
def ixS (t:List Nod)(i:Nat):Nat->List Nat
 | 0=>[]
 | m+1=>if (cA t i m).length=0 then ixS t i m else ixS t i m++[m]
def aA (t:List Nod)(i m:Nat):List Nat:=(ixS t i m).map λk=>nd (k+1) (i / 2 ^ (k+1))
def aU (t:List Nod)(i m:Nat):List (List Int):=(ixS t i m).map (cA t i)
theorem po (t:List Nod)(i:Nat):∀ m,∀ k∈ixS t i m,k<m
 | 0,k,h=>by cases h
 | m+1,k,h=>by
  unfold ixS at h
  split at h
  ·have:=po t i m k h;omega
  ·rcases JV.1 h with h|h
   ·have:=po t i m k h;omega
   ·simp at h;omega
theorem lI (t:List Nod)(i:Nat):∀ m k,k∈ixS t i m↔k<m/\0<(cA t i k).length
 | 0,k=>by simp[ixS]
 | m+1,k=>by
  unfold ixS
  split
  ·next h=>
   rw[lI t i m k]
   constructor
   ·exact fun⟨h1,h2⟩=>⟨by omega,h2⟩
   ·rintro⟨h1,h2⟩
    refine⟨?_,h2⟩
    by_cases e:k=m
    ·subst e;omega
    ·omega
  ·next h=>
   rw[JV,lI t i m k]
   constructor
   ·rintro (⟨h1,h2⟩|h1)
    ·exact⟨by omega,h2⟩
    ·simp at h1;subst h1;exact⟨by omega,by omega⟩
   ·rintro⟨h1,h2⟩
    by_cases e:k=m
    ·exact .inr (by simp[e])
    ·exact .inl ⟨by omega,h2⟩
theorem pq (t:List Nod)(i:Nat):∀ m,(ixS t i m).Pairwise (·<·)
 | 0=>List.Pairwise.nil
 | m+1=>by
  unfold ixS
  split
  ·exact pq t i m
  ·refine List.pairwise_append.2 ⟨pq t i m,Lw _ _,λa ha b hb=>?_⟩
   have:=po t i m a ha
   simp at hb
   omega
theorem kn (t:List Nod)(i m:Nat):(ixS t i m).length<=m:=by
 induction m with
 | zero=>exact Ja _
 | succ m ih=>
  unfold ixS
  split
  ·omega
  ·rw[Jc,Jo,Jt];omega
def dM (t:List Nod)(i:Int):Int:=if bf t i then 0 else 11
def gG (t:List Nod)(K:Nat)(i:Int):List Nat:=if bf t i then aA t i.toNat K else []
def bH:List Sd->Int->List UInt8
 | [],_=>[]
 | s :: l,x=>if s.node=x then s.seed else bH l x
def er (t:List Nod)(K:Nat)(me:Int)(own:List Sd):Prop:=
 bf t me /\
 (∀ k,k<own.length->((aO own k).node=2*me\/∃ x∈aK K 0 me.toNat,(x:Int)=(aO own k).node/\(ats t x).kind=2)/\(aO own k).seed.length=32 /\
  aJ (aO own k).seed=(ats t (aO own k).node.toNat).pub/\(0<k->(aO own (k - 1)).node<(aO own k).node)) /\
 (∀ x∈aK K 0 me.toNat,(ats t x).kind=2->me∉(ats t x).un->(bH own (x:Int)).length≠0)/\(bH own (2*me)).length≠0
def dN:List Sd->Sd->List Sd
 | [],s=>[s]
 | a :: l,s=>if s.node<a.node then s :: a :: l else a :: dN l s
def aW (s:List UInt8):Nat->List UInt8
 | 0=>s
 | k+1=>br (aW s k) eG
def fw (s:List UInt8)(n:Nat):List UInt8:=aW s (if n=0 then 1 else n)
theorem jo {s:List UInt8}(h:s.length=32):∀ k,(aW s k).length=32
 | 0=>h
 | k+1=>lH _ _
theorem jL (s:List UInt8)(a:Nat):∀ b,aW s (a+b)=aW (aW s a) b
 | 0=>rfl
 | b+1=>by show br (aW s (a+b)) eG=_;rw[jL s a b];rfl
def bw (s:List UInt8)(k:Nat):List UInt8:=br (aW s k) dT
def df (secret:List UInt8)(n:Nat):List UInt8:=bU secret vN (be 4 n) 32
def bM (t:List Nod)(secret info s:List UInt8):Nat->List Int->List Se
 | _,[]=>[]
 | n,y :: l=>⟨fI (ats t y.toNat).pub (df secret n),fJ (ats t y.toNat).pub (df secret n) info s⟩ :: bM t secret info s (n+1) l
theorem lJ (t:List Nod)(secret info s:List UInt8):∀ (l:List Int) (n:Nat),(bM t secret info s n l).length=l.length
 | [],_=>rfl
 | _ :: l,n=>by unfold bM;rw[Jo,Jo,lJ t secret info s l]
def makeS (t:List Nod)(secret info:List UInt8):List UInt8->Nat->List (List Int)->List St
 | _,_,[]=>[]
 | s,n,who :: l=>⟨dE (br s dT),bM t secret info s n who⟩ :: makeS t secret info (br s eG) (n+who.length) l
theorem nH (t:List Nod)(secret info:List UInt8):∀ (l:List (List Int)) (s:List UInt8) (n:Nat),(makeS t secret info s n l).length=l.length
 | [],_,_=>rfl
 | _ :: l,s,n=>by unfold makeS;rw[Jo,Jo,nH t secret info l]
theorem rG (t:List Nod)(secret info:List UInt8):∀ (l:List (List Int)) (s:List UInt8) (n k:Nat),k<l.length->(aC (makeS t secret info s n l) k).pub=aJ (bw s k)
 | [],_,_,_,h=>absurd h (Lk _)
 | _ :: l,s,n,0,_=>(fk (lH s dT)).2
 | who :: l,s,n,k+1,h=>by
  show(aC (makeS t secret info (br s eG) (n+who.length) l) k).pub=_
  rw[rG t secret info l _ _ k (by simpa using h)]
  unfold bw
  congr 2
  have:=jL s 1 k
  rw[Mb] at this
  exact this.symm
def cC:List Sd->List UInt8->List Nat->List Sd
 | own,_,[]=>own
 | own,s,x :: l=>cC (dN own ⟨(x:Int),br s dT⟩) (br s eG) l
def bJ (p:List St):Nat->List Nat->List Nod->List Nod
 | _,[],t=>t
 | k,x :: l,t=>bJ p (k+1) l (t.set x ⟨2,0,(aC p k).pub,[],[]⟩)
def ej (t:List Nod)(i:Int)(l:List Nat)(p:Pa):List Nod:=gC (bJ p.step 0 l (mA t i p.pub)) i
structure Md where
 tree:List Nod
 own:List Sd
 path:Pa
 last:List UInt8
def ig:Md:=⟨[],[],⟨[],[]⟩,[]⟩
def el (t:List Nod)(i:Int)(seed secret:List UInt8):Int:=if seed.length=32/\secret.length=32 then dM t i else 1
def bG (t:List Nod)(K i:Nat)(seed secret info:List UInt8):Pa:=⟨aJ seed,makeS t secret info secret 0 (aU t i K)⟩
def eS (t:List Nod)(K:Nat)(i:Int)(seed secret info:List UInt8):Md:=
 if el t i seed secret=0 then ⟨ej t i (aA t i.toNat K) (bG t K i.toNat seed secret info),cC [⟨2*i,seed⟩] secret (aA t i.toNat K),bG t K i.toNat seed secret info,fw secret (ixS t i.toNat K).length⟩ else ig
def fx (who:List (List Int))(p:Pa):Prop:=
 p.step.length=who.length/\p.pub.length=32/\∀ k,k<who.length->(aC p.step k).fors.length=(who.getD k []).length/\(aC p.step k).pub.length=32
def em (own:List Sd)(info:List UInt8):List Int->List Se->List UInt8 × Int
 | [],_=>([],5)
 | y :: l,f=>
  if (bH own y).length=0 then em own info l f.tail
  else if (aM f 0).half.length≠32 then ([],5)
  else if unE (bH own y) (aM f 0).half info (aM f 0).b≠0 then ([],unE (bH own y) (aM f 0).half info (aM f 0).b)
  else if (unR (bH own y) (aM f 0).half info (aM f 0).b).length≠32 then ([],2)
  else (unR (bH own y) (aM f 0).half info (aM f 0).b,0)
def jM (p:List St)(s:List UInt8)(k n:Nat):Prop:=∀ a,k+a<n->aJ (bw s a)=(aC p (k+a)).pub
theorem Se.ext' {a b:Se}(d:a.half=b.half)(c:a.b=b.b):a=b:=by cases a;cases b;simp_all
theorem St.ext' {a b:St}(d:a.pub=b.pub)(c:a.fors=b.fors):a=b:=by cases a;cases b;simp_all
theorem Pa.ext' {a b:Pa}(d:a.pub=b.pub)(c:a.step=b.step):a=b:=by cases a;cases b;simp_all
theorem Sd.ext' {a b:Sd}(d:a.node=b.node)(c:a.seed=b.seed):a=b:=by cases a;cases b;simp_all
theorem vO {own:List Sd}{t:List Nod}{secret info s:List UInt8}(hs:s.length=32):∀ (l:List Int) (n:Nat),
  (∀ y∈l,(bH own y).length≠0->(bH own y).length=32/\aJ (bH own y)=(ats t y.toNat).pub)->(∃ y∈l,(bH own y).length≠0) ->
  em own info l (bM t secret info s n l)=(s,0)
 | [],_,_,⟨y,hy,_⟩=>by cases hy
 | y :: l,n,h,hex=>by
  unfold em
  by_cases hk:(bH own y).length=0
  ·rw[if_pos hk]
   have ih:=vO (own:=own) (t:=t) (secret:=secret) (info:=info) hs l (n+1) (λz hz=>h z (by simp[hz])) (by
    obtain⟨z,hz,h2⟩:=hex
    rcases Ki.1 hz with e|e
    ·subst e;exact absurd hk h2
    ·exact⟨z,e,h2⟩)
   exact ih
  ·rw[if_neg hk]
   obtain⟨h1,h2⟩:=h y (by simp) hk
   have hon:(df secret n).length=32:=nE _ _ _
   have hpl:(ats t y.toNat).pub.length=32:=by rw[<-h2];exact ib _
   obtain⟨e1,e2,e3⟩:=pm info s (⟨hon,hpl⟩:okW (ats t y.toNat).pub (df secret n))
   have e0:aM (bM t secret info s n (y :: l)) 0=⟨aJ (df secret n),ic (ats t y.toNat).pub (aJ (df secret n)) info s⟩:=by
    show(⟨fI (ats t y.toNat).pub (df secret n),fJ (ats t y.toNat).pub (df secret n) info s⟩:Se)=_
    rw[e2,e3]
   have hh:=ib (df secret n)
   obtain⟨u1,u2⟩:=CC (seed:=bH own y) (half:=aJ (df secret n)) info s h1 hh
   rw[e0,if_neg (by simpa using hh)]
   rw[h2] at u1 u2
   simp only[u1,u2]
   rw[if_neg (by decide),if_neg (by simpa using hs)]
theorem aD.there_iff (h:aD t K)(k:Nat):bf t (k:Int)↔(ats t (2*k)).kind=1:=by
 constructor
 ·intro b
  have:=b.2.2;rwa [Jm] at this
 ·intro a
  have:=aD.lt_of (t:=t) (x:=2*k) (by rw[a];decide);exact⟨by omega,by unfold lvs;omega,by rw[Jm];exact a⟩
theorem aD.new {name:Int}{pub:List UInt8}(h:dP name pub):aD [aH name pub] 0:=by
 have e:ats [aH name pub] 0=aH name pub:=rfl;refine⟨by omega,rfl,λx c=>?_,λx y b a=>by simp at a;omega,⟨0,by simp,rfl⟩⟩;have:x=0:=by simpa using c
 subst this;rw[show okP [aH name pub] 0↔_ from Iff.rfl];exact .inr ⟨rfl,h,.inl rfl,λ_=>rfl,λd=>absurd d (show ¬(1:Int)=2 by decide)⟩
theorem aD.over {aa:List Nod}(h:aD t K)(l:aa.length=t.length)(c:∀ y,ats aa y=ats t y\/(y % 2=1/\(ats aa y=aY\/∃ p:List UInt8,p.length=32/\ats aa y=⟨2,0,p,[],[]⟩))):aD aa K:=by
 have n:∀ i,ats aa (2*i)=ats t (2*i):=λi=>by
  rcases c (2*i) with e|⟨e,_⟩
  ·exact e
  ·omega
 have q:∀ y,(ats aa y).kind=1->ats aa y=ats t y:=λy d=>by
  rcases c y with e|⟨_,e|⟨p,_,e⟩⟩
  ·exact e
  ·rw[e] at d;cases d
  ·rw[e] at d;cases d
 refine⟨h.le,l.trans h.len,λy b=>?_,λx y j b g f=>?_,?_⟩
 ·rcases c y with e|⟨u,e|⟨p,s,e⟩⟩
  ·rcases h.okA y with v|⟨C,B,A,z,o⟩
   ·exact .inl (e.trans v)
   ·refine .inr ?_
    rw[e];exact⟨C,B,A,z,λa=>⟨(o a).1,(o a).2.1,λi m=>by
     have:=(o a).2.2 i m;rw[n];exact this⟩⟩
  ·exact .inl e
  ·refine .inr ?_
   rw[e];refine⟨?_,⟨Int.le_refl 0,show(0:Int)<=65535 by decide,s⟩,.inl rfl,λa=>rfl,λ_=>⟨rfl,List.Pairwise.nil,λi m=>by cases m⟩⟩;show(2:Int)=1+(y:Int) % 2
   omega
 ·have w:=q x g
  have a:=q y f;rw[w] at g ⊢;rw[a] at f ⊢;exact h.one x y j (l▸b) g f
 ·obtain⟨x,r,k⟩:=h.used
  refine⟨x,l▸r,?_⟩;have D:x % 2=0:=by
   rcases h.okA x with e|⟨e,_⟩
   ·rw[e] at k;cases k
   ·omega
  rcases c x with e|⟨u,_⟩
  ·rw[e];exact k
  ·omega
theorem bk.over {aa:List Nod}(h:bk t K)(f:aa.length=t.length)(a:∀ y,ats aa y=ats t y\/(y % 2=1/\(ats aa y=aY\/∃ p:List UInt8,p.length=32/\ats aa y=⟨2,0,p,[],[]⟩))):bk aa K:=by
 refine⟨h.le,f.trans h.len,λy=>?_,λy b=>?_⟩
 ·rcases a y with e|⟨_,e|⟨p,c,e⟩⟩
  ·rw[e];exact h.node y
  ·rw[e];exact dR.blank
  ·rw[e]
   exact⟨.inr (.inr rfl),⟨Int.le_refl 0,show(0:Int)<=65535 by decide⟩,by simp only[c];decide,Jl _,Jl _,λi g=>by cases g⟩
 ·rcases a y with e|⟨d,_⟩
  ·rw[e] at b;exact h.par y b
  ·exact d
theorem nM (p:List St):∀ (l:List Nat) (k:Nat) (t:List Nod),(bJ p k l t).length=t.length
 | [],_,_=>rfl
 | x :: l,k,t=>(nM p l (k+1) _).trans (JA ..)
theorem pB (p:List St):∀ (l:List Nat) (k:Nat) (t:List Nod) (y:Nat),(∀ x∈l,x<t.length)->y∉l->ats (bJ p k l t) y=ats t y
 | [],_,_,_,_,_=>rfl
 | x :: l,k,t,y,h,hy=>by
  show ats (bJ p (k+1) l _) y=_
  rw[pB p l (k+1) _ y (λz hz=>by rw[JA];exact h z (by simp[hz])) (λe=>hy (by simp[e])),fc _ _ _ _ (h x (by simp)),if_neg λe=>hy (by simp[e])]
theorem rN (p:List St):∀ (l:List Nat) (k:Nat) (t:List Nod),l.Nodup->(∀ x∈l,x<t.length)->∀ a,a<l.length->ats (bJ p k l t) (l.getD a 0)=⟨2,0,(aC p (k+a)).pub,[],[]⟩
 | [],_,_,_,_,a,h=>absurd h (Lk _)
 | x :: l,k,t,hn,h,0,_=>by
  show ats (bJ p (k+1) l _) x=_
  rw[pB p l (k+1) _ x (λz hz=>by rw[JA];exact h z (by simp[hz])) (Ms.1 hn).1,fc _ _ _ _ (h x (by simp)),if_pos rfl]
  rfl
 | x :: l,k,t,hn,h,a+1,ha=>by
  show ats (bJ p (k+1) l _) (l.getD a 0)=_
  rw[rN p l (k+1) _ (Ms.1 hn).2 (λz hz=>by rw[JA];exact h z (by simp[hz])) a (by simpa using ha),show k+1+a=k+(a+1) by omega]
theorem De:x∈aA t i K↔∃ k,k<K/\0<(cA t i k).length/\x=nd (k+1) (i / 2 ^ (k+1)):=by
 unfold aA;rw[JO];constructor
 ·rintro⟨k,c,rfl⟩
  obtain⟨b,a⟩:=(lI t i K k).1 c;exact⟨k,b,a,rfl⟩
 ·rintro⟨k,b,a,rfl⟩
  exact⟨k,(lI t i K k).2 ⟨b,a⟩,rfl⟩
theorem fK (h:x∈aA t i K):x∈aK K 0 i:=by
 obtain⟨k,a,_,rfl⟩:=De.1 h;exact oI.2 ⟨k+1,by omega,by omega,rfl⟩
theorem lP (t:List Nod)(i K:Nat):(aA t i K).Nodup:=by
 unfold aA;refine Mf.2 ((pq t i K).imp λ{a b} h e=>?_);have:=(iV e).1;omega
theorem fY (t:List Nod)(i K:Nat):(aA t i K).length=(ixS t i K).length/\(aU t i K).length=(ixS t i K).length:=by
 unfold aA aU;rw[JI,JI];exact⟨rfl,rfl⟩
theorem aD.small (h:aD t K):t.length<=2047/\t.length=2*2 ^ K - 1/\0<t.length:=by
 have c:=h.len2;have b:=bP h.le;have a:=bC K;omega
theorem kq {i:Int}(h:aD t K)(b:bf t i):∃ k:Nat,i=(k:Int)/\k<2 ^ K/\(ats t (2*k)).kind=1/\2*k<t.length:=by
 obtain⟨c,d,a⟩:=b;obtain⟨k,rfl⟩:=Jq c;rw[Jm] at a;have:=h.lv;exact⟨k,rfl,by omega,a,lN (by omega)⟩
theorem xk (k l:List UInt8):iH k (de l [] 32) 32=br k l:=by
 unfold br bU iI;rw[if_pos (by decide)];rfl
theorem xm (d:Value)(s:ByteArray)(k:List UInt8)(w:World)(g:Rd w d k)(m:s.size<=300)(b:k.length<=2000):
  Calls prog 32 #[d,.string s] w λe w'=>(∃ v,e=.returned v/\Rd w' v (br k s.data.toList)/\ba w.heap.size v)/\Kp w w':=by
 have h:=Lib.hid (Ea d s k w g m b);rw[xk] at h;generalize br k s.data.toList=D at *;obtain⟨a,n,c,rfl⟩:=az g;clear g b;go_enter func32,ntmps32;go_wp2_with fail;refine h.out.mono ?_;rintro _ o ⟨⟨v,rfl,f,l⟩,i⟩;have j:=Lib.hid (Jb f i);obtain⟨r,p,q,rfl⟩:=az f;clear f i h;go_wp2_with fail;go_ret;exact⟨⟨_,rfl,j.out.1,l⟩,j.out.2⟩
theorem xF (u:Value)(t:List Nod)(w:World)(i:NL w u t)(l:t.length<=100000):
  Calls prog 143 #[u] w λe w'=>e=.returned (.int .i64 ((iT t:Nat):Int))/\w=w':=by
 obtain⟨a,c,rfl,q,p⟩:=i.shape;obtain⟨o,n⟩:=rJ (t:=t) l;have m:IntKind.i64.wrap ((lvs t:Nat):Int)=((lvs t:Nat):Int):=IW _ (by have:=iO (t:=t) l;omega);have f:=Lib.hid (xn ((lvs t:Nat):Int) w);by_cases b:cm ((lvs t:Nat):Int)=true
 ·rw[show gn ((lvs t:Nat):Int)=2*((lvs t:Nat):Int) - 1 from if_pos b,show gi ((lvs t:Nat):Int)=0 from if_pos b] at f
  by_cases j:2*lvs t=t.length+1
  ·rw[show iT t=lvs t from if_pos ⟨b,j⟩]
   have k:¬(2*((lvs t:Nat):Int) - 1≠(t.length:Int)):=by omega
   have g:(2*((lvs t:Nat):Int) - 1 != (t.length:Int))=false:=bne_eq_false_iff_eq.2 (by omega);have d:2*((lvs t:Nat):Int) - 1=(t.length:Int):=by omega
   rw[d] at f;clear b j i k g d;generalize ((lvs t:Nat):Int)=L at *;go_enter func143,ntmps143;go_wp2_with fail;refine f.out.mono ?_;rintro _ _ ⟨rfl,rfl⟩;go_wp2_with fail;go_ret;exact⟨rfl,rfl⟩
  ·rw[show iT t=0 from if_neg λh=>j h.2]
   have g:(2*((lvs t:Nat):Int) - 1 != (t.length:Int))=true:=KX.2 (by omega);have d:¬2*((lvs t:Nat):Int) - 1=(t.length:Int):=by omega
   clear b j i;generalize 2*((lvs t:Nat):Int) - 1=M at *;generalize ((lvs t:Nat):Int)=L at *;go_enter func143,ntmps143;go_wp2_with fail;refine f.out.mono ?_;rintro _ _ ⟨rfl,rfl⟩;go_wp2_with fail;go_ret;exact⟨rfl,rfl⟩
 ·rw[show iT t=0 from if_neg λh=>b h.1]
  rw[show gn ((lvs t:Nat):Int)=0 from if_neg b,show gi ((lvs t:Nat):Int)=1 from if_neg b] at f;clear b i;generalize ((lvs t:Nat):Int)=L at *;go_enter func143,ntmps143;go_wp2_with fail;refine f.out.mono ?_;rintro _ _ ⟨rfl,rfl⟩;go_wp2_with fail;go_ret;exact⟨rfl,rfl⟩
theorem xG (u:Value)(t:List Nod)(K:Nat)(i:Int)(w:World)(l:NL w u t)(d:aD t K):
  Calls prog 142 #[u,.int .i64 i] w λe w'=>e=.returned (.bool (decide (bf t i)))/\w=w':=by
 obtain⟨s,r,o⟩:=d.small;have x:=Lib.hid (xF u t w l (by omega));rw[(nT d.le d.len).1] at x;have g:=d.lv;have f:=bP d.le;obtain⟨a,c,rfl,p1,E⟩:=l.shape;by_cases v:0<=i
 ·obtain⟨k,rfl⟩:=Jq v
  by_cases m:k<2 ^ K
  ·have j:2*k<t.length:=by omega
   obtain⟨b,B,rfl,_,z⟩:=l.at (2*k) j;obtain⟨p,q,h,y⟩:=z (2*k) j;have H:=y.kind;have D:((ats t (2*k)).kind != 0)=decide (bf t (k:Int)):=by
    by_cases n:(ats t (2*k)).kind=0
    ·rw[n,Jr (λh=>by have:=(d.there_iff k).1 h;rw[n] at this;cases this)];rfl
    ·have m:(ats t (2*k)).kind=1:=by
      rcases d.even k with e|e
      ·rw[e] at n;exact absurd rfl n
      ·exact e.1
     rw[Jy ((d.there_iff k).2 m),m];rfl
   have G:IntKind.i64.wrap (2*(k:Int))=((2*k:Nat):Int):=by rw[IW _ (by omega)];omega
   have F:((2*k:Nat):Int)<(t.length:Int):=by omega
   have C:(k:Int)<((2 ^ K:Nat):Int):=by omega
   generalize decide (bf t (k:Int))=L at *;generalize t.length=N at *;generalize ((2 ^ K:Nat):Int)=A at *;generalize (ats t (2*k)).kind=I at *;generalize 2*k=J at *;clear l d z y m v s r o g f j;go_enter func142,ntmps142;go_wp2_with fail;refine x.out.mono ?_;rintro _ _ ⟨rfl,rfl⟩;go_wp2_with fail;go_ret;exact⟨by rw[<-D] <;> rfl,rfl⟩
  ·rw[Jr (show ¬bf t (k:Int) from λh=>by have:=h.2.1;omega)]
   have C:¬(k:Int)<((2 ^ K:Nat):Int):=by omega
   generalize ((2 ^ K:Nat):Int)=A at *;clear l d m s r o g f;go_enter func142,ntmps142;go_wp2_with fail;refine x.out.mono ?_;rintro _ _ ⟨rfl,rfl⟩;go_wp2_with fail;go_ret;exact⟨rfl,rfl⟩
 ·rw[Jr (show ¬bf t i from λh=>v h.1)]
  clear l d s r o g f;generalize ((2 ^ K:Nat):Int)=A at *;go_enter func142,ntmps142;go_wp2_with fail;go_ret;exact⟨rfl,rfl⟩
theorem Ej (x a:Int)(w:World):
  Calls prog 146 #[.int .i64 x,.int .i64 a] w λe w'=>e=.returned (.int .i64 (if x<a then 1 else if a<x then 0 else 1))/\w=w':=by
 by_cases h:a<x
 ·have b:¬x<a:=by omega
  rw[if_neg b,if_pos h];clear b;go_enter func146,ntmps146;go_wp2_with fail;go_ret;exact⟨rfl,rfl⟩
 ·have e:(if x<a then (1:Int) else if a<x then 0 else 1)=1:=by split <;> simp[h]
  rw[e];clear e;go_enter func146,ntmps146;go_wp2_with fail;go_ret;exact⟨rfl,rfl⟩
theorem sw (x a:Int)(w:World)(b:Tab w):
  Calls prog 177 #[.int .i64 x,.int .i64 a] w λe w'=>e=.returned (.int .i64 (if a=1 then fb x else eJ x))/\w=w':=by
 by_cases h:a=1
 ·subst h
  rw[if_pos rfl];have c:=Lib.hid (xA x w b);generalize fb x=V at *;generalize chE x=E at *;clear b;go_enter func177,ntmps177;go_wp2_with fail;refine c.out.mono ?_;rintro _ _ ⟨rfl,rfl⟩;go_wp2_with fail;go_ret;exact⟨rfl,rfl⟩
 ·rw[if_neg h]
  have d:=Lib.hid (sm x w b);have f:(a==1)=false:=Jd.2 h;generalize eJ x=V at *;generalize chE x=E at *;clear b;go_enter func177,ntmps177;go_wp2_with fail;refine d.out.mono ?_;rintro _ _ ⟨rfl,rfl⟩;go_wp2_with fail;go_ret;exact⟨rfl,rfl⟩
theorem yc (h f:Value)(s:ByteArray)(k a:List UInt8)(n:Int)(w:World)(m:Rd w h k)(l:Rd w f a)(r:s.size<=300)(d:a.length<=1400)(c:k.length<=2000)(b:-9223372036854775808<=n/\n<=9223372036854775807):
  Calls prog 131 #[.agg #[h,f],.string s,.int .i64 n] w λe w'=>(∃ v,e=.returned (.tuple #[v,.int .i64 (fv n)])/\Rd w' v (bU k s.data.toList a n)/\ba w.heap.size v)/\Kp w w':=by
 have D:Hid (∀ W,Kp w W->Calls prog 101 #[h,.string s,f,.int .i64 n] W λe w'=>(∃ v,e=.returned (.tuple #[v,.int .i64 (fv n)])/\Ow 5 w' W.heap.size v (bU k s.data.toList a n))/\Kp W w'):=λW t=>pg h s f k a n W (m.kp t) (l.kp t) r d c b
 obtain⟨z,p,x,rfl⟩:=m.sl;obtain⟨y,o,u,rfl⟩:=l.sl;clear m l r d c b;go_enter func131,ntmps131;go_wp2_with fail;refine(D.out _ ((Kp.refl _).alloc _)).mono ?_;rintro _ E ⟨⟨v,rfl,i⟩,q⟩;have A:=i.rd;have j:ba w.heap.size v:=ba.kp (w':=w.alloc (.cells #[.slice z p x,.slice y o u] 184)) (λg B=>i.own_ge g B) ((Kp.refl _).alloc _);have C:=((Kp.refl w).alloc (.cells #[.slice z p x,.slice y o u] 184)).trans q;clear i q;go_wp2_with fail;go_ret2;exact⟨⟨_,rfl,A,j⟩,C⟩
theorem yd (c b:Value)(s:ByteArray)(k a:List UInt8)(n:Int)(w:World)(i:Rd w c k)(h:Rd w b a)(j:s.size<=300)(g:a.length<=1400)(f:k.length<=2000)(d:-9223372036854775808<=n/\n<=9223372036854775807):
  Calls prog 131 #[.agg #[c,b],.string s,.int .i64 n] w λe w'=>(∃ v,e=.returned (.tuple #[v,.int .i64 (fv n)])/\Rd w' v (bU k s.data.toList a n))/\Kp w w':=
 (yc c b s k a n w i h j g f d).mono λe w' ⟨⟨v,i,h,_⟩,l⟩=>⟨⟨v,i,h⟩,l⟩
theorem pV (aa:Value)(seed:List UInt8)(w:World)(c:Rd w aa seed):
  Calls prog 93 #[aa] w λe w'=>(∃ r,e=.returned (.tuple #[r,.int .i64 (jm seed)])/\Rd w' r (dE seed)/\ba w.heap.size r)/\Kp w w':=by
 obtain⟨l,k,rfl,j,n⟩:=c.shape;by_cases a:seed.length=32
 ·rw[(fk a).1,(fk a).2]
  have d:Hid (Calls prog 131 #[.agg #[.slice l seed.length k,.slice none 0 0],.string ⟨#[112,117,98,108,105,99]⟩,.int .i64 32] w λe w'=>(∃ v,e=.returned (.tuple #[v,.int .i64 0])/\Rd w' v (aJ seed)/\ba w.heap.size v)/\Kp w w'):=
   yc _ _ ⟨#[112,117,98,108,105,99]⟩ seed [] 32 w c (cU w) (by decide) (by simp) (by omega) (by omega)
  rw[a] at d j ⊢;clear c a;go_enter func93,ntmps93;go_wp2_with fail;refine d.out.mono ?_;rintro _ m ⟨⟨v,rfl,f,b⟩,g⟩;clear d;go_wp2_with fail;go_ret2;exact⟨⟨_,rfl,f,b⟩,g⟩
 ·rw[(jn a).1,(jn a).2]
  have i:((seed.length:Int)==32)=false:=Jd.2 (by omega);have h:¬(seed.length:Int)=32:=by omega
  go_enter func93,ntmps93;go_wp2_with fail;go_ret2;exact⟨⟨_,rfl,cU _,ba.nil _ _ _⟩,Kp.refl _⟩
theorem Fz (aa:Value)(seed:List UInt8)(w:World)(a:Rd w aa seed):
  Calls prog 93 #[aa] w λe w'=>(∃ r,e=.returned (.tuple #[r,.int .i64 (jm seed)])/\Rd w' r (dE seed))/\Kp w w':=
 (pV aa seed w a).mono λe w' ⟨⟨v,d,c,_⟩,b⟩=>⟨⟨v,d,c⟩,b⟩
theorem ye (aa v i:Value)(pub half info:List UInt8)(w:World)(m:Rd w aa pub)(l:Rd w v half)(g:Rd w i info)(p:pub.length=32)(q:half.length=32)(d:info.length<=1400):
  Calls prog 138 #[aa,v,i] w λe w'=>(∃ a b,e=.returned (.tuple #[a,b,.int .i64 0])/\Rd w' a (wkB pub half info)/\Rd w' b (wnB pub half info))/\Kp w w':=by
 obtain⟨Q,O,rfl,p1,X⟩:=m.shape;obtain⟨P,N,rfl,p2,V⟩:=l.shape;obtain⟨J,F,I,rfl⟩:=g.sl;have B:Hid (Calls prog 171 #[.slice Q pub.length O,.slice P half.length N] w λe w'=>(∃ a c,e=.returned (.slice a 32 c)/\Ow 5 w' w.heap.size (.slice a 32 c) (iN pub half))/\Kp w w'):=BI _ _ pub half w m l (by omega) (by omega);have n:(iN pub half).length=32:=mW _ _;have L:Hid (∀ W s,Kp w W->Rd W s (iN pub half)->Calls prog 131 #[.agg #[s,.slice J F I],.string ⟨#[107,101,121]⟩,.int .i64 32] W λe w'=>(∃ r,e=.returned (.tuple #[r,.int .i64 0])/\Rd w' r (wkB pub half info))/\Kp W w'):=λW s t o=>
  yd s _ ⟨#[107,101,121]⟩ _ info 32 W o (g.kp t) (by decide) d (by omega) (by omega)
 have K:Hid (∀ W s,Kp w W->Rd W s (iN pub half)->Calls prog 131 #[.agg #[s,.slice J F I],.string ⟨#[110,111,110,99,101]⟩,.int .i64 12] W λe w'=>(∃ r,e=.returned (.tuple #[r,.int .i64 0])/\Rd w' r (wnB pub half info))/\Kp W w'):=λW s t o=>
  yd s _ ⟨#[110,111,110,99,101]⟩ _ info 12 W o (g.kp t) (by decide) d (by omega) (by omega)
 rw[p,q] at B;rw[p] at p1 ⊢;rw[q] at p2 ⊢;clear m l g p q d n;have M:∀ (H:Fn) (first f:Array Value) (w:World),(Instr.makeFunc H first f).run prog w=.ok (.func H first f) w:=λ_ _ _ _=>rfl
 go_enter func138,ntmps138;go_wp2_with fail;refine B.out.mono ?_;rintro _ U ⟨⟨x,y,rfl,E⟩,G⟩;have A:=Lib.hid G;have h:=Lib.hid E.rd;clear B E G;go_wp2_with fail;refine(L.out _ _ A.out h.out).mono ?_;rintro _ w2 ⟨⟨a,rfl,D⟩,k⟩;have z:=Lib.hid (A.out.trans k);have u:=Lib.hid D;have h:=Lib.hid (h.out.kp k);clear L D k A;go_wp2_with fail;refine(K.out _ _ z.out h.out).mono ?_;rintro _ T ⟨⟨b,rfl,C⟩,j⟩;have S:=Lib.hid (z.out.trans j);have R:=Lib.hid C;have u:=Lib.hid (u.out.kp j);clear K C j z;go_wp2_with fail;go_ret3
 exact⟨⟨_,_,rfl,u.out,R.out⟩,S.out⟩
theorem yf (aa v i:Value)(pub half:List UInt8)(w:World)(c:Rd w aa pub)(b:Rd w v half)(a:¬(pub.length=32/\half.length=32)):
  Calls prog 138 #[aa,v,i] w λe w'=>e=.returned (.tuple #[.slice none 0 0,.slice none 0 0,.int .i64 1])/\Kp w w':=by
 obtain⟨p,n,rfl,p1,k⟩:=c.shape;obtain⟨o,m,rfl,p2,j⟩:=b.shape;by_cases d:pub.length=32
 ·have l:¬half.length=32:=λh=>a ⟨d,h⟩
  have g:((half.length:Int)==32)=false:=Jd.2 (by omega);have f:¬(half.length:Int)=32:=by omega
  rw[d] at p1 ⊢;clear c b d a;go_enter func138,ntmps138;go_wp2_with fail;go_ret3
  exact⟨rfl,Kp.refl _⟩
 ·have g:((pub.length:Int)==32)=false:=Jd.2 (by omega)
  have f:¬(pub.length:Int)=32:=by omega
  clear c b a;go_enter func138,ntmps138;go_wp2_with fail;go_ret3
  exact⟨rfl,Kp.refl _⟩
theorem FC (u1 u2 u3 u4:Value)(pub once info b:List UInt8)(w:World)(E:Rd w u1 pub)(I:Rd w u2 once)(H:Rd w u3 info)(G:Rd w u4 b)(d:info.length<=1400)(t:b.length<=1600):
  Calls prog 102 #[u1,u2,u3,u4] w λe w'=>(∃ x y,e=.returned (.tuple #[x,y,.int .i64 (pl pub once)])/\Rd w' x (fI pub once)/\Rd w' y (fJ pub once info b)/\ba w.heap.size x/\ba w.heap.size y)/\Kp w w':=by
 have l:=Lib.hid (pV u2 once w I);by_cases c:once.length=32
 ·rw[(fk c).1,(fk c).2] at l
  by_cases A:pub.length=32
  ·obtain⟨j,i,g⟩:=pm (pub:=pub) (once:=once) info b ⟨c,A⟩
   rw[j,i,g];have F:Hid (∀ W v,Kp w W->Rd W v (aJ once)->Calls prog 138 #[u1,v,u3] W λe w'=>(∃ a b,e=.returned (.tuple #[a,b,.int .i64 0])/\Rd w' a (wkB pub (aJ once) info)/\Rd w' b (wnB pub (aJ once) info))/\Kp W w'):=λW v B K=>
    ye u1 v u3 pub _ info W (E.kp B) K (H.kp B) A (ib _) d
   have S:Hid (∀ W k n,Kp w W->Rd W k (wkB pub (aJ once) info)->Rd W n (wnB pub (aJ once) info)->Calls prog 139 #[k,n,.slice none 0 0,u4] W λe w'=>(∃ r,e=.returned (.tuple #[r,.int .i64 0])/\Rd w' r (ic pub (aJ once) info b)/\ba W.heap.size r)/\Kp W w'):=λW k n B U T=>by
    have:=Fx k n (.slice none 0 0) u4 _ _ [] b W U T (cU W) (G.kp B) (by simp;omega);rwa [show jk (wkB pub (aJ once) info) (wnB pub (aJ once) info)=0 from if_pos (nG _ _ _),show jl (wkB pub (aJ once) info) (wnB pub (aJ once) info) [] b=ic pub (aJ once) info b from if_pos (nG _ _ _)] at this
   clear E I H G d t c A j i g;go_enter func102,ntmps102;go_wp2_with fail;refine l.out.mono ?_;rintro _ M ⟨⟨p,rfl,m,q⟩,s⟩;have u:=Lib.hid s;have f:=Lib.hid m;clear l m s;go_wp2_with fail;refine(F.out _ _ u.out f.out).mono ?_;rintro _ w2 ⟨⟨k,n,rfl,P,O⟩,z⟩;have C:=Lib.hid (u.out.trans z);have f:=Lib.hid (f.out.kp z);have R:=Lib.hid P;have Q:=Lib.hid O;clear F P O z u;go_wp2_with fail;refine(S.out _ _ _ C.out R.out Q.out).mono ?_;rintro _ Y ⟨⟨o,rfl,N,D⟩,J⟩;have L:=Lib.hid (D.kp C.out);have X:=Lib.hid (C.out.trans J);have f:=Lib.hid (f.out.kp J);have V:=Lib.hid N;clear S N J C R Q D;go_wp2_with fail;go_ret3
   exact⟨⟨_,_,rfl,f.out,V.out,q,L.out⟩,X.out⟩
  ·obtain⟨j,i,g⟩:=pn (pub:=pub) (once:=once) info b (λh=>A h.2)
   rw[j,i,g];have F:Hid (∀ W v,Kp w W->Rd W v (aJ once)->Calls prog 138 #[u1,v,u3] W λe w'=>e=.returned (.tuple #[.slice none 0 0,.slice none 0 0,.int .i64 1])/\Kp W w'):=λW v B K=>
    yf u1 v u3 pub _ W (E.kp B) K (λh=>A h.1)
   clear E I H G d t c A j i g;go_enter func102,ntmps102;go_wp2_with fail;refine l.out.mono ?_;rintro _ M ⟨⟨p,rfl,m,q⟩,s⟩;have u:=Lib.hid s;have f:=Lib.hid m;clear l m s;go_wp2_with fail;refine(F.out _ _ u.out f.out).mono ?_;rintro _ w2 ⟨rfl,z⟩;have C:=Lib.hid (u.out.trans z);clear F z u f;go_wp2_with fail;go_ret3
   exact⟨⟨_,_,rfl,cU _,cU _,ba.nil _ _ _,ba.nil _ _ _⟩,C.out⟩
 ·obtain⟨j,i,g⟩:=pn (pub:=pub) (once:=once) info b (λh=>c h.1)
  rw[j,i,g];rw[(jn c).1,(jn c).2] at l;clear E I H G d t c j i g;go_enter func102,ntmps102;go_wp2_with fail;refine l.out.mono ?_;rintro _ M ⟨⟨p,rfl,m,q⟩,s⟩;clear l m;go_wp2_with fail;go_ret3
  exact⟨⟨_,_,rfl,cU _,cU _,ba.nil _ _ _,ba.nil _ _ _⟩,s⟩
theorem FD (u1 u2 u3 u4:Value)(seed half info b:List UInt8)(w:World)(F:Rd w u1 seed)(y:Rd w u2 half)(D:Rd w u3 info)(C:Rd w u4 b)(d:info.length<=1400)(m:b.length<=1600):
  Calls prog 159 #[u1,u2,u3,u4] w λe w'=>(∃ x,e=.returned (.tuple #[x,.int .i64 (unE seed half info b)])/\Rd w' x (unR seed half info b))/\Kp w w':=by
 have i:=Lib.hid (Fz u1 seed w F);by_cases c:seed.length=32
 ·rw[(fk c).1,(fk c).2] at i
  by_cases s:half.length=32
  ·obtain⟨g,f⟩:=vL (seed:=seed) (half:=half) info b ⟨c,s⟩
   rw[g,f];have B:Hid (∀ W v,Kp w W->Rd W v (aJ seed)->Calls prog 138 #[v,u2,u3] W λe w'=>(∃ a b,e=.returned (.tuple #[a,b,.int .i64 0])/\Rd w' a (wkB (aJ seed) half info)/\Rd w' b (wnB (aJ seed) half info))/\Kp W w'):=λW v t G=>
    ye v u2 u3 _ half info W G (y.kp t) (D.kp t) (ib _) s d
   have O:Hid (∀ W k n,Kp w W->Rd W k (wkB (aJ seed) half info)->Rd W n (wnB (aJ seed) half info)->Calls prog 194 #[k,n,.slice none 0 0,u4] W λe w'=>(∃ r,e=.returned (.tuple #[r,.int .i64 (fH (wkB (aJ seed) half info) (wnB (aJ seed) half info) [] b)])/\Rd w' r (fW (wkB (aJ seed) half info) (wnB (aJ seed) half info) [] b))/\Kp W w'):=λW k n t Q P=>
    Fy k n (.slice none 0 0) u4 _ _ [] b W Q P (cU W) (C.kp t) (by simp;omega)
   generalize fH (wkB (aJ seed) half info) (wnB (aJ seed) half info) [] b=E at *;generalize fW (wkB (aJ seed) half info) (wnB (aJ seed) half info) [] b=R at *;clear F y D C d m c s g f;go_enter func159,ntmps159;go_wp2_with fail;refine i.out.mono ?_;rintro _ H ⟨⟨p,rfl,j⟩,l⟩;have q:=Lib.hid l;have z:=Lib.hid j;clear i j l;go_wp2_with fail;refine(B.out _ _ q.out z.out).mono ?_;rintro _ w2 ⟨⟨k,n,rfl,K,J⟩,u⟩;have A:=Lib.hid (q.out.trans u);have N:=Lib.hid K;have M:=Lib.hid J;clear B K J u q z;go_wp2_with fail;refine(O.out _ _ _ A.out N.out M.out).mono ?_;rintro _ U ⟨⟨o,rfl,I⟩,L⟩;have T:=Lib.hid (A.out.trans L);have S:=Lib.hid I;clear O I L A N M;go_wp2_with fail;go_ret2;exact⟨⟨_,rfl,S.out⟩,T.out⟩
  ·obtain⟨g,f⟩:=vM (seed:=seed) (half:=half) info b (λh=>s h.2)
   rw[g,f];have B:Hid (∀ W v,Kp w W->Rd W v (aJ seed)->Calls prog 138 #[v,u2,u3] W λe w'=>e=.returned (.tuple #[.slice none 0 0,.slice none 0 0,.int .i64 1])/\Kp W w'):=λW v t G=>
    yf v u2 u3 _ half W G (y.kp t) (λh=>s h.2)
   clear F y D C d m c s g f;go_enter func159,ntmps159;go_wp2_with fail;refine i.out.mono ?_;rintro _ H ⟨⟨p,rfl,j⟩,l⟩;have q:=Lib.hid l;have z:=Lib.hid j;clear i j l;go_wp2_with fail;refine(B.out _ _ q.out z.out).mono ?_;rintro _ w2 ⟨rfl,u⟩;have A:=Lib.hid (q.out.trans u);clear B u q z;go_wp2_with fail;go_ret2;exact⟨⟨_,rfl,cU _⟩,A.out⟩
 ·obtain⟨g,f⟩:=vM (seed:=seed) (half:=half) info b (λh=>c h.1)
  rw[g,f];rw[(jn c).1,(jn c).2] at i;clear F y D C d m c g f;go_enter func159,ntmps159;go_wp2_with fail;refine i.out.mono ?_;rintro _ H ⟨⟨p,rfl,j⟩,l⟩;clear i j;go_wp2_with fail;go_ret2;exact⟨⟨_,rfl,cU _⟩,l⟩
theorem Rd.bytesIn {a:Option Addr}{l:List UInt8}(h:Rd w (.slice a l.length c) l):Lib.BytesIn w a l.length (l.map λb=>(b.toNat:Int)):=λj=>by
 obtain⟨b,d,e,_,g⟩:=h.at 0 j;refine⟨b,d,e,λi f=>?_⟩;rw[g i f,IU,IV f,IU,JQ,IV f];rfl
theorem ym (l:List UInt8):Lib.bytesOf (l.map λb=>(b.toNat:Int))=l:=by
 unfold Lib.bytesOf;rw[List.map_map];conv=>rhs;rw[<-List.map_id l]
 refine Mo λb _=>?_
 simp
theorem lX (u v:Value)(l m:List UInt8)(w:World)(c:Rd w u l)(a:Rd w v m):
  Calls prog 52 #[u,v] w λe w'=>e=.returned (.bool (decide (l=m)))/\Kp w w':=by
 obtain⟨h,f,rfl,p1,j⟩:=c.shape;obtain⟨g,d,rfl,p2,i⟩:=a.shape;refine(bytes_Equal_all h g l.length f m.length d (l.map λb=>(b.toNat:Int)) (m.map λb=>(b.toNat:Int)) w (JI ..) (JI ..) c.bytesIn a.bytesIn).mono ?_;rintro e w' ⟨rfl,rfl⟩;rw[ym,ym];refine⟨?_,Kp.refl _⟩;by_cases e:l=m
 ·rw[Jy e,e];simp
 ·rw[Jr e];simp[e]
theorem FF (v:Value)(l:List Int)(w:World)(h:RI w v l)(t:l.length<=1000000):
  Calls prog 174 #[v] w λe w'=>∃ u,e=.returned u/\OI 3 w' w.heap.size u l/\Kp w w':=by
 have S:=fX
 have q:∀ (w:World) (a:Option Addr) (n c n' g:Nat),(binOp .eql 34 (.slice a n c) (.slice none n' g)).run prog w=.ok (.bool a.isNone) w:=λw a n c n' g=>Lib.run_eql_slice_nil w _ _ a n c n' g underlying34
 have p:=h
 obtain⟨a,c,rfl,x,s⟩:=h.shape
 cases a with
 | none=>
  have f:l=[]:=by
   by_cases o:0<l.length
   ·obtain⟨b,i,e,_⟩:=h.at 0 o
    cases e
   ·exact Ju (by omega)
  subst f
  go_enter func174,ntmps174
  go_wp2_with fail
  go_ret
  exact⟨_,rfl,OI.nil _ _ _,Kp.refl _⟩
 | some a=>
  go_enter func174,ntmps174
  go_wp2_with(at_builtin;refine gx S rfl _ _ rfl w.heap.size _ [] rfl (RI.lit w _ #[] [] 0 rfl (by omega) rfl) _ l rfl (p.kp ((Kp.refl _).alloc _)) ?c1 ?c2 ?_;rotate_right;intro r w2 d m)
  case c1=>simp;omega
  case c2=>simp
  go_ret
  exact⟨_,rfl,by simpa using d,Kp.grown (v:=.slice (some ⟨w.heap.size,0,none⟩) 0 0) ((Kp.refl _).alloc _) m (by intro k j;simp[Value.ownBlock] at j;omega)⟩
theorem NL.flat9 {b d n:Nat}(h:NL w (.slice (some ⟨b,d,none⟩) n c) t)(F:0<t.length):
  ∃ us:List Value,us.length=t.length*5/\(∀ z∈us,z.oneCell'=true)/\(∀ j z,us[j]?=some z->w.cell? ⟨b,d+j,none⟩=some z) /\
   ∀ i,i<t.length->∃ p u h,(∀ f,f<5->us[i*5+f]?=(bT (ats t i) p u h)[f]?)/\NIn w (ats t i) p u h:=by
 have E:n=t.length:=by
  obtain⟨I,G,e,_⟩:=h.shape;simp only[Ji] at e;exact e.2.1
 obtain⟨H,m,o,_,q⟩:=h.at 0 (by omega);simp only[JL,Kn,and_true] at o;obtain⟨rfl,rfl⟩:=o;have a:∀ x:Value,aQ (.slice none 0 0) x:=λx g r=>by cases r
 obtain⟨us,B,A,y,s⟩:=NAp.flat (v:=.slice none 0 0) (t:=t) (λi k=>by
  obtain⟨p,u,h,l⟩:=q i (by omega);exact⟨p,u,h,l,a _,a _,a _⟩)
 refine⟨us,B,A,y,λi k=>?_⟩;obtain⟨p,u,h,D,C,_⟩:=s i k;exact⟨p,u,h,D,C⟩
theorem yn (v:Value)(t:List Nod)(w:World)(g:NL w v t)(C:0<t.length)(A:t.length<=1000000):
  Calls prog 105 #[v] w λe w'=>(∃ l us,e=.returned l/\w'.ownsRow w.heap.size 81 5 l t.length us/\(∀ z∈us,z.oneCell'=true) /\
   ∀ i,i<t.length->∃ p u h,(∀ f,f<5->us[i*5+f]?=(bT (ats t i) p u h)[f]?)/\NIn w (ats t i) p u h)/\Kp w w':=by
 have S:=pr;obtain⟨G,O,B,x,s,r,o⟩:=S.hi;have q:∀ (w:World) (a:Option Addr) (n c n' D:Nat),(binOp .eql 22 (.slice a n c) (.slice none n' D)).run prog w=.ok (.bool a.isNone) w:=λw a n c n' D=>Lib.run_eql_slice_nil w _ _ a n c n' D underlying22
 obtain⟨a,c,rfl,Y,H⟩:=g.shape;obtain⟨b,m,rfl,_,_⟩:=g.at 0 C;obtain⟨us,L,K,J,I⟩:=g.flat9 C;have W:=Lib.hid J;have V:=Lib.hid I;have M:=Lib.hid K;have d:=Lib.hid (Jb A (La A r));generalize t.length=N at *;have Z:=Lib.hid H;have X:=Lib.hid L;clear g I J A K C H L;go_enter func105,ntmps105;go_wp2_with(at_builtin;refine wpList_append_own_at _ rfl _ _ 22 rfl w.heap.size 81 G O 5 G.bytes S.ht B x s rfl o (by decide) _ 0 [] rfl (World.ownsRow_made w #[] 0 (Ja _) (Jl _) (by simp)) ⟨b,m,none⟩ N c us rfl X.out (λj y R=>by rw[Addr.add_mid];exact((Kp.refl w).alloc _).cell (W.out j y R)) M.out (by have:=d.out.1;unfold maxLen;omega) (by have:=d.out.2;rw[JS];omega) (by simp) ?_;intro l w' F E _ P)
 have T:=Lib.hid (Kp.grown (w0:=w) (v:=.slice (some ⟨w.heap.size,0,none⟩) 0 0) ((Kp.refl _).alloc _) E (by intro k Q;simp[Value.ownBlock] at Q;omega));have U:=Lib.hid F;clear F E P;go_ret;exact⟨⟨_,us,rfl,by simpa using U.out,M.out,V.out⟩,T.out⟩
theorem yT (aa:Value)(seed:List UInt8)(w:World)(g:Rd w aa seed):
  Calls prog 50 #[aa] w λe w'=>(∃ r,e=.returned (.tuple #[r,.int .i64 (jm seed)])/\Rd w' r (dE seed)/\ba w.heap.size r)/\Kp w w':=by
 obtain⟨q,p,rfl,o,u⟩:=g.shape;by_cases b:seed.length=32
 ·obtain⟨f,d⟩:=fk b
  rw[f,d];have i:Hid (Calls prog 63 #[.slice q seed.length p,.string ⟨#[112,117,98,108,105,99]⟩,.slice none 0 0,.int .i64 32] w λe w'=>(∃ v,e=.returned (.tuple #[v,.int .i64 0])/\Rd w' v (aJ seed)/\ba w.heap.size v)/\Kp w w'):=sk _ ⟨#[112,117,98,108,105,99]⟩ _ seed [] 32 w g (cU w) (by decide) (by simp) (by omega);rw[b] at i o ⊢;clear g b f d;go_enter func50,ntmps50;go_wp2_with fail;refine i.out.mono ?_;rintro _ s ⟨⟨t,rfl,h,j⟩,k⟩;obtain⟨a,n,c,rfl⟩:=h.sl;go_wp2_with fail;go_ret2;exact⟨⟨_,rfl,h,j⟩,k⟩
 ·obtain⟨f,d⟩:=jn b
  rw[f,d];have m:((seed.length:Int)==32)=false:=Jd.2 (by omega);have l:¬(seed.length:Int)=32:=by omega
  go_enter func50,ntmps50;go_wp2_with fail;go_ret2;exact⟨⟨_,rfl,cU _,ba.nil _ _ _⟩,Kp.refl _⟩
theorem Hl (aa v i:Value)(pub half info:List UInt8)(w:World)(z:Rd w aa pub)(y:Rd w v half)(m:Rd w i info)(A:pub.length<=2000)(F:half.length<=1800)(c:info.length<=1400):
  Calls prog 113 #[aa,v,i] w λe w'=>(∃ a b,e=.returned (.tuple #[a,b])/\Rd w' a (wkB pub half info)/\Rd w' b (wnB pub half info))/\Kp w w':=by
 have B:Hid (Calls prog 151 #[aa,v] w λe w'=>(∃ r,e=.returned r/\Rd w' r (iN pub half))/\Kp w w'):=by
  refine(sj aa v pub half w z y A (by omega)).mono ?_;rintro _ w' ⟨⟨r,rfl,o⟩,E⟩;exact⟨⟨r,rfl,o.rd⟩,E⟩
 have k:(iN pub half).length=32:=mW _ _;have D:Hid (∀ W s,Kp w W->Rd W s (iN pub half)->Calls prog 63 #[s,.string ⟨#[107,101,121]⟩,i,.int .i64 32] W λe w'=>(∃ r,e=.returned (.tuple #[r,.int .i64 0])/\Rd w' r (wkB pub half info))/\Kp W w'):=λW s n l=>
  nR s ⟨#[107,101,121]⟩ i _ info 32 W l (m.kp n) (by decide) c (by omega)
 have C:Hid (∀ W s,Kp w W->Rd W s (iN pub half)->Calls prog 63 #[s,.string ⟨#[110,111,110,99,101]⟩,i,.int .i64 12] W λe w'=>(∃ r,e=.returned (.tuple #[r,.int .i64 0])/\Rd w' r (wnB pub half info))/\Kp W w'):=λW s n l=>
  nR s ⟨#[110,111,110,99,101]⟩ i _ info 12 W l (m.kp n) (by decide) c (by omega)
 clear z y m A F c k;go_enter func113,ntmps113;go_wp2_with fail;refine B.out.mono ?_;rintro _ L ⟨⟨s,rfl,u⟩,x⟩;have t:=Lib.hid x;have d:=Lib.hid u;clear B u x;go_wp2_with fail;refine(D.out _ _ t.out d.out).mono ?_;rintro _ w2 ⟨⟨a,rfl,g⟩,j⟩;have q:=Lib.hid (t.out.trans j);have p:=Lib.hid g;have d:=Lib.hid (d.out.kp j);obtain⟨J,N,P,rfl⟩:=g.sl;clear D g j t;go_wp2_with fail;refine(C.out _ _ q.out d.out).mono ?_;rintro _ K ⟨⟨b,rfl,f⟩,h⟩;have H:=Lib.hid (q.out.trans h);have G:=Lib.hid f;have p:=Lib.hid (p.out.kp h);obtain⟨I,M,O,rfl⟩:=f.sl;clear C f h q;go_wp2_with fail;go_ret2;exact⟨⟨_,_,rfl,p.out,G.out⟩,H.out⟩
theorem Hm (u1 u2 u3 u4:Value)(pub once info b:List UInt8)(w:World)(F:Rd w u1 pub)(O:Rd w u2 once)(N:Rd w u3 info)(M:Rd w u4 b)(t:info.length<=1400)(E:b.length<=1600):
  Calls prog 64 #[u1,u2,u3,u4] w λe w'=>(∃ x y,e=.returned (.tuple #[x,y,.int .i64 (pl pub once)])/\Rd w' x (fI pub once)/\Rd w' y (fJ pub once info b)/\ba w.heap.size x/\ba w.heap.size y)/\Kp w w':=by
 obtain⟨Z,Y,rfl,p1,s1⟩:=F.shape;have c:=Lib.hid (yT u2 once w O);by_cases g:once.length=32
 ·rw[(fk g).1,(fk g).2] at c
  by_cases u:pub.length=32
  ·obtain⟨m,l,j⟩:=pm (pub:=pub) (once:=once) info b ⟨g,u⟩
   rw[m,l,j];have I:Hid (∀ W v,Kp w W->Rd W v (aJ once)->Calls prog 113 #[.slice Z pub.length Y,v,u3] W λe w'=>(∃ a b,e=.returned (.tuple #[a,b])/\Rd w' a (wkB pub (aJ once) info)/\Rd w' b (wnB pub (aJ once) info))/\Kp W w'):=λW v z S=>
    Hl _ v u3 pub _ info W (F.kp z) S (N.kp z) (by omega) (by rw[ib];omega) t
   have R:Hid (∀ W k n,Kp w W->Rd W k (wkB pub (aJ once) info)->Rd W n (wnB pub (aJ once) info)->Calls prog 114 #[k,n,.slice none 0 0,u4] W λe w'=>(∃ r,e=.returned (.tuple #[r,.int .i64 0])/\Rd w' r (ic pub (aJ once) info b)/\ba W.heap.size r)/\Kp W w'):=λW k n z U T=>by
    have:=Fr k n (.slice none 0 0) u4 _ _ [] b W U T (cU W) (M.kp z) (by simp;omega);rwa [show jk (wkB pub (aJ once) info) (wnB pub (aJ once) info)=0 from if_pos (nG _ _ _),show jl (wkB pub (aJ once) info) (wnB pub (aJ once) info) [] b=ic pub (aJ once) info b from if_pos (nG _ _ _)] at this
   rw[u] at I p1 ⊢;clear F O N M t E g u m l j;go_enter func64,ntmps64;go_wp2_with fail;refine c.out.mono ?_;rintro _ J ⟨⟨p,rfl,d,f⟩,i⟩;have H:=Lib.hid i;have q:=Lib.hid d;obtain⟨x1,n1,d1,rfl⟩:=d.sl;clear c d i;go_wp2_with fail;refine(I.out _ _ H.out q.out).mono ?_;rintro _ w2 ⟨⟨k,n,rfl,L,K⟩,D⟩;have A:=Lib.hid (H.out.trans D);have q:=Lib.hid (q.out.kp D);have Q:=Lib.hid L;have P:=Lib.hid K;clear I L K D H;go_wp2_with fail;refine(R.out _ _ _ A.out Q.out P.out).mono ?_;rintro _ w3 ⟨⟨o,rfl,B,s⟩,C⟩;have G:=Lib.hid (s.kp A.out);have K3:=Lib.hid (A.out.trans C);have q:=Lib.hid (q.out.kp C);have R4:=Lib.hid B;obtain⟨x4,n4,d4,rfl⟩:=B.sl;clear R B C A Q P s;go_wp2_with fail;go_ret3
   exact⟨⟨_,_,rfl,q.out,R4.out,f,G.out⟩,K3.out⟩
  ·obtain⟨m,l,j⟩:=pn (pub:=pub) (once:=once) info b (λh=>u h.2)
   rw[m,l,j];have X:((pub.length:Int)==32)=false:=Jd.2 (by omega);have V:¬(pub.length:Int)=32:=by omega
   go_enter func64,ntmps64;go_wp2_with fail;refine c.out.mono ?_;rintro _ J ⟨⟨p,rfl,d,f⟩,i⟩;clear c d;go_wp2_with fail;go_ret3
   exact⟨⟨_,_,rfl,cU _,cU _,ba.nil _ _ _,ba.nil _ _ _⟩,i⟩
 ·obtain⟨m,l,j⟩:=pn (pub:=pub) (once:=once) info b (λh=>g h.1)
  rw[m,l,j];rw[(jn g).1,(jn g).2] at c;go_enter func64,ntmps64;go_wp2_with fail;refine c.out.mono ?_;rintro _ J ⟨⟨p,rfl,d,f⟩,i⟩;clear c d;go_wp2_with fail;go_ret3
  exact⟨⟨_,_,rfl,cU _,cU _,ba.nil _ _ _,ba.nil _ _ _⟩,i⟩
theorem yU (aa:Value)(seed:List UInt8)(w:World)(h:Rd w aa seed):
  Calls prog 33 #[aa] w λe w'=>(∃ r,e=.returned r/\Rd w' r (dE seed)/\ba w.heap.size r)/\Kp w w':=by
 have d:=Lib.hid (yT aa seed w h);go_enter func33,ntmps33;go_wp2_with fail;refine d.out.mono ?_;rintro _ j ⟨⟨p,rfl,b,f⟩,g⟩;have i:=Lib.hid b;obtain⟨a,n,c,rfl⟩:=b.sl;clear d b;go_wp2_with fail;go_ret;exact⟨⟨_,rfl,i.out,f⟩,g⟩
theorem Hn (aa:Value)(seed:List UInt8)(w:World)(a:Rd w aa seed):
  Calls prog 33 #[aa] w λe w'=>(∃ r,e=.returned r/\Rd w' r (dE seed))/\Kp w w':=
 (yU aa seed w a).mono λe w' ⟨⟨v,d,c,_⟩,b⟩=>⟨⟨v,d,c⟩,b⟩
