import Derived.Test.YthmhklmkgkfcpaaGreatDoorW20
import Derived.Deep.AppendLies
set_option linter.all false
set_option maxHeartbeats 8000000
set_option maxRecDepth 100000
namespace Go.Proofs.YthmhklmkgkfcpaaGreatDoor
open Go.Proofs.Tryz Go.RowKit
variable {B K a g i k m me n:Nat}{T e:TypeId}{Y Z:Nat->Prop}{c d j r v x:Value}{cs:Array Value}{l:List Sd}{s:List UInt8}{t:List Nod}{w w':World}{α:Type}
theorem pC:∀ (own:List Sd) (y:Int),(bH own y).length≠0->∃ k,k<own.length/\(aO own k).node=y/\(aO own k).seed=bH own y
 | [],y,h=>absurd rfl h
 | s :: l,y,h=>by
  unfold bH at h ⊢
  by_cases e:s.node=y
  ·rw[if_pos e]
   exact⟨0,by simp,e,rfl⟩
  ·rw[if_neg e] at h ⊢
   obtain⟨k,h1,h2,h3⟩:=pC l y h
   exact⟨k+1,by simp;omega,h2,h3⟩
theorem vX {t:List Nod}{K me:Nat}(hr:aD t K)(hk:(ats t (2*me)).kind=1):∀ j,j<=K ->
  ((2*me:Nat):Int)∈bt t j (me / 2 ^ j)\/∃ a,1<=a/\a<=j/\((nd a (me / 2 ^ a):Nat):Int)∈bt t j (me / 2 ^ j)/\(ats t (nd a (me / 2 ^ a))).kind=2/\(me:Int)∉(ats t (nd a (me / 2 ^ a))).un
 | 0,_=>by
  left
  have e:me / 2 ^ 0=me:=by simp
  unfold bt
  rw[e,fa,if_neg (by rw[hk];decide)]
  exact LV ..
 | j+1,hj=>by
  have hdiv:me / 2 ^ (j+1)=me / 2 ^ j / 2:=by rw[LQ,Kl]
  by_cases h0:(ats t (nd (j+1) (me / 2 ^ (j+1)))).kind=0
  ·have hc:2*(me / 2 ^ (j+1))=me / 2 ^ j\/2*(me / 2 ^ (j+1))+1=me / 2 ^ j:=by omega
   have hsub:∀ y,y∈bt t j (me / 2 ^ j)->y∈bt t (j+1) (me / 2 ^ (j+1)):=λy hy=>by
    unfold bt
    rw[if_pos h0,JV]
    rcases hc with e|e
    ·exact .inl (by rw[e];exact hy)
    ·exact .inr (by rw[e];exact hy)
   rcases vX hr hk j (by omega) with h|⟨a,h1,h2,h3,h4⟩
   ·exact .inl (hsub _ h)
   ·exact .inr ⟨a,h1,by omega,hsub _ h3,h4⟩
  ·have hodd:=jt j (me / 2 ^ (j+1))
   have h2:(ats t (nd (j+1) (me / 2 ^ (j+1)))).kind=2:=by
    rcases hr.odd hodd with e|⟨e,_⟩
    ·rw[e] at h0;exact absurd rfl h0
    ·exact e
   by_cases hu:(me:Int)∈(ats t (nd (j+1) (me / 2 ^ (j+1)))).un
   ·left
    unfold bt
    rw[if_neg h0]
    refine Mh _ (JO.2 ⟨(me:Int),hu,by omega⟩)
   ·right
    refine⟨j+1,by omega,Ja _,?_,h2,hu⟩
    unfold bt
    rw[if_neg h0]
    exact LV ..
theorem nN (o:K<=10)(j:i<2 ^ K)(h:me<2 ^ K)(d:i≠me):
  1<=bW i me/\bW i me<=K/\i / 2 ^ (bW i me)=me / 2 ^ (bW i me)/\sq (i / 2 ^ (bW i me - 1))=me / 2 ^ (bW i me - 1):=by
 obtain⟨g,c,f⟩:=ti o j h;obtain⟨m,l⟩:∃ m,bW i me=m:=⟨_,rfl⟩;rw[l] at g c f ⊢;have k:m≠0:=λe=>by subst e;simp at c;exact d c
 obtain⟨n,rfl⟩:∃ n,m=n+1:=⟨m - 1,by omega⟩;refine⟨by omega,g,c,?_⟩;rw[KP];have p:=f n (by omega);rw[LQ,<-Kl,<-Kl] at c;generalize i / 2 ^ n=a at *;generalize me / 2 ^ n=b at *;clear g f j h;unfold sq;split <;> omega
theorem rO {own:List Sd}(b:aD t K)(r:i<2 ^ K)(p:(ats t (2*me)).kind=1)(g:me<2 ^ K)(c:i≠me)(l:er t K (me:Int) own):
  ∃ y∈cA t i (bW i me - 1),(bH own y).length≠0:=by
 obtain⟨B,A,z,f⟩:=nN b.le r g c;obtain⟨n,o⟩:∃ n,bW i me - 1=n:=⟨_,rfl⟩;rw[o] at f ⊢;have m:me / 2 ^ n<2 ^ (K - n):=by
  have:=kR (K:=K) (j:=0) (q:=me) (i:=n) (by simpa using g) (by omega);simpa using this
 have x:cA t i n=bt t n (me / 2 ^ n):=by
  unfold cA;rw[f];exact oJ b (by omega) m
 obtain⟨_,_,d,k⟩:=l;rw[Jm] at d;rw[x];rcases vX b p n (by omega) with h|⟨a,w,C,v,u,s⟩
 ·refine⟨_,h,?_⟩
  have e:((2*me:Nat):Int)=2*(me:Int):=by omega
  rw[e];exact k
 ·exact⟨_,v,d _ (oI.2 ⟨a,w,by omega,rfl⟩) u s⟩
theorem pD (t:List Nod)(secret info:List UInt8):∀ (l:List (List Int)) (s:List UInt8) (n k:Nat),k<l.length->∃ n',(aC (makeS t secret info s n l) k).fors=bM t secret info (aW s k) n' (l.getD k [])
 | [],_,_,_,h=>absurd h (Lk _)
 | who :: l,s,n,0,_=>⟨n,rfl⟩
 | who :: l,s,n,k+1,h=>by
  obtain⟨n',e⟩:=pD t secret info l (br s eG) (n+who.length) k (by simpa using h)
  refine⟨n',?_⟩
  show(aC (makeS t secret info (br s eG) (n+who.length) l) k).fors=_
  rw[e]
  have:=jL s 1 k
  rw[Mb] at this
  show bM t secret info (aW (br s eG) k) n' (l.getD k [])=bM t secret info (aW s (k+1)) n' (l.getD k [])
  rw[this]
  rfl
theorem ko (t:List Nod)(K i:Nat)(seed secret info:List UInt8):fx (aU t i K) (bG t K i seed secret info):=by
 refine⟨nH _ _ _ _ _ _,ib _,λk a=>⟨?_,?_⟩⟩
 ·obtain⟨n',e⟩:=pD t secret info (aU t i K) secret 0 k a
  show(aC (makeS t secret info secret 0 (aU t i K)) k).fors.length=_
  rw[e,lJ]
 ·show(aC (makeS t secret info secret 0 (aU t i K)) k).pub.length=32
  rw[rG t secret info _ _ _ k a];exact ib _
def kM (t:List Nod)(i me:Nat):Nat:=(ixS t i (bW i me - 1)).length
theorem rP (t:List Nod)(i n:Nat)(h:0<(cA t i n).length):∀ m,n<m->∃ rest,ixS t i m=ixS t i n++n :: rest
 | 0,hm=>absurd hm (Lk _)
 | m+1,hm=>by
  by_cases e:n=m
  ·subst e
   refine⟨[],?_⟩
   rw[show ixS t i (n+1)=if (cA t i n).length=0 then ixS t i n else ixS t i n++[n] from rfl,if_neg (by omega)]
  ·obtain⟨rest,e2⟩:=rP t i n h m (by omega)
   show ∃ rest,(if (cA t i m).length=0 then ixS t i m else ixS t i m++[m])=_
   split
   ·exact⟨rest,e2⟩
   ·exact⟨rest++[m],by rw[e2,KN];rfl⟩
theorem rQ (b:1<=bW i me/\bW i me<=K)(h:0<(cA t i (bW i me - 1)).length):
  kM t i me<(ixS t i K).length/\(ixS t i K).getD (kM t i me) 0=bW i me - 1/\(aU t i K).getD (kM t i me) []=cA t i (bW i me - 1)/\(aA t i K).getD (kM t i me) 0=nd (bW i me) (i / 2 ^ (bW i me)):=by
 obtain⟨rest,e⟩:=rP t i _ h K (by omega);unfold kM;have c:(ixS t i K).length=(ixS t i (bW i me - 1)).length+(rest.length+1):=by rw[e,Jc,Jo]
 have a:(ixS t i K)[(ixS t i (bW i me - 1)).length]?=some (bW i me - 1):=by
  rw[e,JB (Ja _),Lx];rfl
 refine⟨by omega,?_,?_,?_⟩
 ·rw[IU,a];rfl
 ·unfold aU
  rw[IU,JQ,a];rfl
 ·unfold aA
  rw[IU,JQ,a];show nd (bW i me - 1+1) (i / 2 ^ (bW i me - 1+1))=_
  rw[show bW i me - 1+1=bW i me by omega]
def eU (t:List Nod)(K i me:Nat)(own:List Sd)(info:List UInt8)(p:Pa):List UInt8 × Int:=em own info ((aU t i K).getD (kM t i me) []) (aC p.step (kM t i me)).fors
open Classical in
noncomputable def et (t:List Nod) (K:Nat) (i me:Int) (own:List Sd) (info:List UInt8) (p:Pa):Int:=
 if ¬bf t i then 11 else if i=me then 1 else if ¬fx (aU t i.toNat K) p then 2
 else if (eU t K i.toNat me.toNat own info p).2≠0 then (eU t K i.toNat me.toNat own info p).2
 else if jM p.step (eU t K i.toNat me.toNat own info p).1 (kM t i.toNat me.toNat) (ixS t i.toNat K).length then 0 else 5
open Classical in
noncomputable def gH (K i:Nat) (own:List Sd):List Sd:=own.filter λs=>decide (¬∃ x∈aK K 0 i,(x:Int)=s.node)
noncomputable def ez (t:List Nod) (K:Nat) (i me:Int) (own:List Sd) (info:List UInt8) (p:Pa):Md:=
 if et t K i me own info p=0 then
  ⟨ej t i (aA t i.toNat K) p,cC (gH K i.toNat own) (eU t K i.toNat me.toNat own info p).1 ((aA t i.toNat K).drop (kM t i.toNat me.toNat)),p,aW (eU t K i.toNat me.toNat own info p).1 ((ixS t i.toNat K).length - kM t i.toNat me.toNat)⟩
 else ig
theorem Df {own:List Sd}{seed secret:List UInt8}(info:List UInt8)(c:aD t K)(b:(ats t (2*i)).kind=1)(d:i≠me)(j:er t K (me:Int) own)(E:seed.length=32)(u:secret.length=32):
  et t K (i:Int) (me:Int) own info (bG t K i seed secret info)=0/\eU t K i me own info (bG t K i seed secret info)=(aW secret (kM t i me),0) /\
  (ez t K (i:Int) (me:Int) own info (bG t K i seed secret info)).tree=(eS t K (i:Int) seed secret info).tree /\
  (ez t K (i:Int) (me:Int) own info (bG t K i seed secret info)).last=(eS t K (i:Int) seed secret info).last /\
  (ez t K (i:Int) (me:Int) own info (bG t K i seed secret info)).path=(eS t K (i:Int) seed secret info).path:=by
 have f:=(c.there_iff me).1 j.1;have q:=c.len2;have r:i<2 ^ K:=by have:=aD.lt_of (t:=t) (x:=2*i) (by rw[b];decide);omega
 have p:me<2 ^ K:=by have:=aD.lt_of (t:=t) (x:=2*me) (by rw[f];decide);omega
 obtain⟨A,w,_,_⟩:=nN c.le r p d;obtain⟨y,o,h⟩:=rO c r f p d j;obtain⟨L,J,B,I⟩:=rQ (K:=K) ⟨A,w⟩ (Mz o);have C:=(fY t i K).2;have k:eU t K i me own info (bG t K i seed secret info)=(aW secret (kM t i me),0):=by
  unfold eU;obtain⟨n',e⟩:=pD t secret info (aU t i K) secret 0 (kM t i me) (by omega);show em own info _ (aC (makeS t secret info secret 0 (aU t i K)) (kM t i me)).fors=_
  rw[e,B];refine vO (jo u _) _ _ (λz M g=>?_) ⟨y,o,h⟩;obtain⟨a,H,G,F⟩:=pC own z g;obtain⟨_,v,n,_⟩:=j.2.1 a H;rw[F] at v n;rw[G] at n;exact⟨v,n⟩
 have s:et t K (i:Int) (me:Int) own info (bG t K i seed secret info)=0:=by
  unfold et;rw[if_neg (by rw[Kw];exact(c.there_iff i).2 b),if_neg (by omega),Jm,Jm,if_neg (by rw[Kw];exact ko t K i seed secret info),k,if_neg (by simp),if_pos];intro a N;show _=(aC (makeS t secret info secret 0 (aU t i K)) (kM t i me+a)).pub
  rw[rG t secret info _ _ _ _ (by omega)];unfold bw;rw[jL]
 have D:el t (i:Int) seed secret=0:=by
  unfold el dM;rw[if_pos ⟨E,u⟩,if_pos ((c.there_iff i).2 b)]
 have l:ez t K (i:Int) (me:Int) own info (bG t K i seed secret info)=⟨ej t (i:Int) (aA t i K) (bG t K i seed secret info),cC (gH K i own) (aW secret (kM t i me)) ((aA t i K).drop (kM t i me)),bG t K i seed secret info,aW (aW secret (kM t i me)) ((ixS t i K).length - kM t i me)⟩:=by
  unfold ez;rw[if_pos s,Jm,Jm,k]
 have m:eS t K (i:Int) seed secret info=⟨ej t (i:Int) (aA t i K) (bG t K i seed secret info),cC [⟨2*(i:Int),seed⟩] secret (aA t i K),bG t K i seed secret info,fw secret (ixS t i K).length⟩:=by
  unfold eS;rw[if_pos D,Jm]
 refine⟨s,k,?_,?_,?_⟩
 ·rw[l,m]
 ·rw[l,m]
  show aW (aW secret (kM t i me)) _=fw secret _
  unfold fw;rw[if_neg (by omega),<-jL];congr 1
  omega
 ·rw[l,m]
def srt (l:List Sd):Prop:=l.Pairwise λa b=>a.node<b.node
theorem pE:∀ (l:List Sd) (s x:Sd),x∈dN l s↔x=s\/x∈l
 | [],s,x=>by simp[dN]
 | a :: l,s,x=>by
  unfold dN
  split
  ·rw[Ki]
  ·rw[Ki,pE l s x,Ki]
   constructor
   ·rintro (h|h|h)
    ·exact .inr (.inl h)
    ·exact .inl h
    ·exact .inr (.inr h)
   ·rintro (h|h|h)
    ·exact .inr (.inl h)
    ·exact .inl h
    ·exact .inr (.inr h)
theorem vY:∀ (l:List Sd) (s:Sd),srt l->(∀ a∈l,a.node≠s.node)->srt (dN l s)
 | [],s,_,_=>Lw _ _
 | a :: l,s,h,hn=>by
  have h1:=Lt.1 h
  unfold dN
  split
  ·next hlt=>
   refine Lt.2 ⟨λb hb=>?_,h⟩
   rcases Ki.1 hb with e|e
   ·rw[e];exact hlt
   ·exact Int.lt_trans hlt (h1.1 b e)
  ·next hlt=>
   have hne:=hn a (by simp)
   refine Lt.2 ⟨λb hb=>?_,vY l s h1.2 λb hb=>hn b (by simp[hb])⟩
   rcases (pE l s b).1 hb with e|e
   ·rw[e];omega
   ·exact h1.1 b e
theorem pF:∀ (l:List Sd),srt l->∀ s∈l,bH l s.node=s.seed
 | [],_,s,h=>by cases h
 | a :: l,hs,s,h=>by
  have h1:=Lt.1 hs
  unfold bH
  rcases Ki.1 h with e|e
  ·rw[e,if_pos rfl]
  ·have:=h1.1 s e
   rw[if_neg (by omega)]
   exact pF l h1.2 s e
theorem vZ:∀ (xs:List Nat) (own:List Sd) (s:List UInt8) (x:Sd),x∈cC own s xs↔x∈own\/∃ a,a<xs.length/\x=⟨((xs.getD a 0:Nat):Int),bw s a⟩
 | [],own,s,x=>by
  show x∈own↔_
  exact⟨λh=>.inl h,λh=>by
   rcases h with h|⟨a,ha,_⟩
   ·exact h
   ·exact absurd ha (Lk _)⟩
 | y :: xs,own,s,x=>by
  show x∈cC (dN own ⟨(y:Int),br s dT⟩) (br s eG) xs↔_
  rw[vZ xs,pE]
  have hs:∀ a,bw (br s eG) a=bw s (a+1):=λa=>by
   unfold bw
   congr 1
   have:=jL s 1 a
   rw[Mb] at this
   exact this.symm
  constructor
  ·rintro ((h|h)|⟨a,ha,h⟩)
   ·exact .inr ⟨0,by simp,h⟩
   ·exact .inl h
   ·exact .inr ⟨a+1,by simpa using ha,by rw[h,hs];rfl⟩
  ·rintro (h|⟨a,ha,h⟩)
   ·exact .inl (.inr h)
   ·cases a with
    | zero=>exact .inl (.inl h)
    | succ a=>exact .inr ⟨a,by simpa using ha,by rw[h,hs];rfl⟩
theorem wd:∀ (xs:List Nat) (own:List Sd) (s:List UInt8),xs.Nodup->srt own->(∀ a∈own,∀ x∈xs,a.node≠(x:Int))->srt (cC own s xs)
 | [],own,s,_,h,_=>h
 | y :: xs,own,s,hn,h,hd=>by
  have h1:=Ms.1 hn
  refine wd xs _ _ h1.2 (vY own _ h λa ha=>hd a ha y (by simp)) λa ha x hx=>?_
  rcases (pE _ _ _).1 ha with e|e
  ·rw[e]
   intro e2
   have:y=x:=Int.ofNat.inj e2
   subst this
   exact h1.1 hx
  ·exact hd a e x (by simp[hx])
theorem nO (h:k<l.length):aO l k∈l:=by
 unfold aO;rw[IU,IV h];exact JD h
theorem fl (h:k<l.length):aO l k=l[k]:=by
 unfold aO;rw[IU,IV h];rfl
theorem nP {me:Int}{own:List Sd}:er t K me own ↔
  bf t me/\srt own/\(∀ s∈own,(s.node=2*me\/∃ x∈aK K 0 me.toNat,(x:Int)=s.node/\(ats t x).kind=2)/\s.seed.length=32/\aJ s.seed=(ats t s.node.toNat).pub) /\
  (∀ x∈aK K 0 me.toNat,(ats t x).kind=2->me∉(ats t x).un->∃ s∈own,s.node=(x:Int))/\∃ s∈own,s.node=2*me:=by
 constructor
 ·rintro⟨u,g,j,r⟩
  have y:∀ s∈own,(s.node=2*me\/∃ x∈aK K 0 me.toNat,(x:Int)=s.node/\(ats t x).kind=2)/\s.seed.length=32/\aJ s.seed=(ats t s.node.toNat).pub:=λs c=>by
   obtain⟨k,f,rfl⟩:=JW c;have:=g k f;rw[fl f] at this;exact⟨this.1,this.2.1,this.2.2.1⟩
  have h:∀ d a,a+d+1<own.length->(aO own a).node<(aO own (a+d+1)).node:=λd=>by
   induction d with
   | zero=>exact λa i=>by have:=(g (a+0+1) i).2.2.2 (by omega);rwa [show a+0+1 - 1=a by omega] at this
   | succ d ih=>
    intro a i;have v:=ih a (by omega);have l:=(g (a+(d+1)+1) i).2.2.2 (by omega);rw[show a+(d+1)+1 - 1=a+d+1 by omega] at l;exact Int.lt_trans v l
  refine⟨u,JU.2 λa b i z A=>?_,y,λx o q p=>?_,?_⟩
  ·have:=h (b - a - 1) a (by omega)
   rw[show a+(b - a - 1)+1=b by omega,fl i,fl z] at this;exact this
  ·obtain⟨k,n,m,_⟩:=pC own _ (j x o q p)
   exact⟨_,nO n,m⟩
  ·obtain⟨k,n,m,_⟩:=pC own _ r
   exact⟨_,nO n,m⟩
 ·rintro⟨u,g,j,r,q⟩
  have w:∀ s∈own,(bH own s.node).length≠0:=λs c=>by
   rw[pF own g s c,(j s c).2.1];decide
  refine⟨u,λk f=>?_,λx o p B=>?_,?_⟩
  ·obtain⟨v,l,C⟩:=j _ (nO f)
   refine⟨v,l,C,λD=>?_⟩;rw[fl f,fl (show k - 1<own.length by omega)];exact JU.1 g (k - 1) k (by omega) f (by omega)
  ·obtain⟨s,c,e⟩:=r x o p B
   rw[<-e];exact w s c
  ·obtain⟨s,c,e⟩:=q
   rw[<-e];exact w s c
theorem wj:∀ (l:List Sd) (s:Sd),(dN l s).length=l.length+1
 | [],s=>rfl
 | a :: l,s=>by
  unfold dN
  split
  ·rfl
  ·rw[Jo,wj l s,Jo]
theorem wl:∀ (xs:List Nat) (own:List Sd) (s:List UInt8),(cC own s xs).length=own.length+xs.length
 | [],own,s=>rfl
 | y :: xs,own,s=>by
  show(cC (dN own _) _ xs).length=_
  rw[wl xs,wj,Jo]
  omega
theorem Dg (seed secret info:List UInt8)(c:a<(ixS t i K).length):
  ∃ k,k<K/\0<(cA t i k).length/\(ixS t i K).getD a 0=k/\(aA t i K).getD a 0=nd (k+1) (i / 2 ^ (k+1))/\(aU t i K).getD a []=cA t i k/\(aC (bG t K i seed secret info).step a).fors.length=(cA t i k).length:=by
 have b:=IV c;obtain⟨f,e⟩:=(lI t i K _).1 (JD c);have d:(aU t i K).getD a []=cA t i (ixS t i K)[a]:=by
  unfold aU;rw[IU,JQ,b];rfl
 refine⟨_,f,e,by rw[IU,b];rfl,?_,d,?_⟩
 ·unfold aA
  rw[IU,JQ,b];rfl
 ·rw[((ko t K i seed secret info).2.2 a (by rw[(fY t i K).2];exact c)).1,d]
def dF (p1 p2:List UInt8):List Nod:=[aH 1 p1,aY,aH 2 p2]
section
variable {p1 p2 : List UInt8}
theorem rR (b:p1.length=32):pt 1 p1=0/\py 1 p1=[aH 1 p1]:=by
 have a:dP 1 p1:=⟨by decide,by decide,b⟩;exact⟨if_pos a,if_pos a⟩
theorem rS (d:p1.length=32)(c:p2.length=32):en [aH 1 p1] 2 p2=0/\ix [aH 1 p1] 2 p2=dF p1 p2/\iX [aH 1 p1] 2 p2=1:=by
 have b:dP 2 p2:=⟨by decide,by decide,c⟩;have a:en [aH 1 p1] 2 p2=0:=by
  unfold en;rw[if_pos b];kernel_rfl
 unfold ix iX;rw[if_pos a,if_pos a];refine⟨a,?_,?_⟩
 ·kernel_rfl
 ·kernel_rfl
theorem Dh (a:p1.length=32):aD [aH 1 p1] 0:=(rR a).2▸(aD.new ⟨by decide,by decide,a⟩)
theorem Di (g:p1.length=32)(f:p2.length=32):aD (dF p1 p2) 1:=by
 refine⟨by omega,rfl,λx e=>?_,λx y c b j i=>?_,⟨0,(show 0<3 by decide),rfl⟩⟩
 ·have d:x<3:=e
  rcases (show x=0\/x=1\/x=2 by omega) with rfl|rfl|rfl
  ·exact .inr ⟨rfl,⟨(show(0:Int)<=1 by decide),(show(1:Int)<=65535 by decide),g⟩,.inl rfl,λ_=>rfl,λh=>(by cases h)⟩
  ·exact .inl rfl
  ·exact .inr ⟨rfl,⟨(show(0:Int)<=2 by decide),(show(2:Int)<=65535 by decide),f⟩,.inl rfl,λ_=>rfl,λh=>(by cases h)⟩
 ·have a:y<3:=b
  rcases (show(x=0/\y=1)\/(x=0/\y=2)\/(x=1/\y=2) by omega) with⟨rfl,rfl⟩|⟨rfl,rfl⟩|⟨rfl,rfl⟩
  ·cases i
  ·exact(show(1:Int)≠2 by decide)
  ·cases j
theorem Dj (c:p1.length=32)(b:p2.length=32):gS (dF p1 p2) 40:=⟨(show 3<=40 by decide),λn a=>by
 unfold dF at a;simp only[Ki,LC,or_false] at a;rcases a with rfl|rfl|rfl
 ·exact⟨by show p1.length<=40;omega,(show 0<=40 by decide),(show 0<=40 by decide)⟩
 ·exact⟨by decide,by decide,by decide⟩
 ·exact⟨by show p2.length<=40;omega,(show 0<=40 by decide),(show 0<=40 by decide)⟩⟩
theorem wm:(ats (dF p1 p2) (2*0)).kind=1/\(ats (dF p1 p2) (2*1)).kind=1/\aA (dF p1 p2) 0 1=[1]/\aA (dF p1 p2) 1 1=[1]/\aU (dF p1 p2) 0 1=[[2]]/\dM (dF p1 p2) 1=0/\bf (dF p1 p2) 0/\bf (dF p1 p2) 1:=
 ⟨rfl,rfl,by kernel_rfl,by kernel_rfl,by kernel_rfl,by kernel_rfl,⟨by decide,(show(0:Int)<((3+1) / 2:Nat) by decide),rfl⟩,⟨by decide,(show(1:Int)<((3+1) / 2:Nat) by decide),rfl⟩⟩
theorem Dk (c:s.length=32)(d:p2=aJ s):er (dF p1 p2) 1 (1:Int) [⟨2,s⟩]/\¬er (dF p1 p2) 1 (0:Int) [⟨2,s⟩]:=by
 refine⟨nP.2 ⟨(wm (p1:=p1) (p2:=p2)).2.2.2.2.2.2.2,Lw _ _,λx a=>?_,λx a f=>?_,⟨_,Ko.2 rfl,rfl⟩⟩,λh=>?_⟩
 ·rw[Ko] at a
  subst a;exact⟨.inl rfl,c,d.symm⟩
 ·have:x∈[1]:=a
  rw[Ko] at this;subst this;cases f
 ·obtain⟨_,_,_,_,⟨z,b,e⟩⟩:=nP.1 h
  rw[Ko] at b;subst b;cases e
end
theorem Dl {m:List Sd}(c:srt l)(d:srt m)(h:∀ s,s∈l↔s∈m):l=m:=by
 have nd:∀ {l:List Sd},srt l->l.Nodup:=λ{l} c=>c.imp λ{a b} g e=>by subst e;omega
 have f:l.Perm m:=(List.perm_ext_iff_of_nodup (nd c) (nd d)).2 h;have k:l.Pairwise λa b=>a.node<b.node:=c
 have j:m.Pairwise λa b=>a.node<b.node:=d
 exact List.Perm.eq_of_pairwise (le:=λa b:Sd=>a.node<b.node) (λa b _ _ i n=>absurd i (by omega)) k j f
def dU (s:List UInt8)(n:Nat):List (List UInt8):=(List.range n).map (aW s)
theorem jN (s:List UInt8)(n:Nat):(dU s n).length=n:=by unfold dU;simp
theorem Dm (s:List UInt8)(n:Nat):dU s (n+1)=dU s n++[aW s n]:=by
 unfold dU;rw[List.range_succ,Kx];rfl
theorem rT (s:List UInt8)(h:k<n):(dU s n).getD k []=aW s k:=by
 unfold dU;rw[IU,JQ,Ly h];rfl
theorem Dn (s:List UInt8)(h:m<=n):(dU s n).take m=dU s m:=by
 unfold dU;rw[<-List.map_take,List.take_range,Ma h]
theorem Do {j:Nat}(e:K<=10)(c:i<2 ^ K)(b:me<2 ^ K):me / 2 ^ j=i / 2 ^ j↔bW i me<=j:=by
 obtain⟨k,g,f⟩:=ti e c b;constructor
 ·intro h
  exact ME λa=>f j a h.symm
 ·intro h
  obtain⟨d,rfl⟩:=Nat.exists_eq_add_of_le h;rw[Nat.pow_add,<-Kl,<-Kl,g]
theorem Dp (l:K<=10)(j:i<2 ^ K)(g:me<2 ^ K)(c:i≠me)(n:0<(cA t i (bW i me - 1)).length)(b:(ixS t i K)[a]?=some k):
  me / 2 ^ (k+1)=i / 2 ^ (k+1)↔kM t i me<=a:=by
 obtain⟨q,p,_,_⟩:=nN l j g c;rw[Do l j g];obtain⟨rest,e⟩:=rP t i _ n K (by omega);unfold kM;constructor
 ·intro h
  refine ME λd=>?_
  rw[e,JE d] at b;have:=po t i _ k (Km b);omega
 ·intro h
  rw[e,JB h] at b;have f:=pq t i K;rw[e] at f;have o:=(List.pairwise_append.1 f).2.1;rcases Ki.1 (Km b) with m|m
  ·omega
  ·have:=(Lt.1 o).1 k m
   omega
theorem Dq {own:List Sd}{xs:List Nat}(c:xs.Nodup)(h:srt own)(e:∀ a∈own,∀ x∈xs,a.node≠(x:Int)){r:List Sd}(b:srt r)
  (d:∀ y,y∈r↔y∈own\/∃ a,a<xs.length/\y=⟨((xs.getD a 0:Nat):Int),bw s a⟩):r=cC own s xs:=
 Dl b (wd xs own s c h e) λy=>by rw[d,vZ]
def fy (t:List Nod)(own:List Sd)(x:Nat):Prop:=∃ s∈own,s.node=(x:Int)/\s.seed.length=32/\aJ s.seed=(ats t x).pub
def rU (t:List Nod)(me:Int)(x:Nat):Prop:=(ats t x).kind≠0/\me∉(ats t x).un
def bN (K me:Nat):List Nat:=aK K 0 me++[2*me]
theorem Dr (K me:Nat):(bN K me).Nodup:=by
 unfold bN;refine List.nodup_append.2 ⟨qH K me,by simp,λa d b c e=>?_⟩;simp at c;subst c;have:=gU d;omega
theorem Ds {own:List Sd}(h:srt own):(own.map (·.node)).Nodup:=Mf.2 (h.imp λ{a b} c=>by omega)
theorem wo {own:List Sd}(h:srt own){a b:Sd}(d:a∈own)(c:b∈own)(e:a.node=b.node):a=b:=by
 have f:=pF own h a d;have g:=pF own h b c;rw[e] at f;cases a;cases b;simp_all
theorem ww:∀ (A B:List Int),A.Nodup->(∀ x∈A,x∈B)->B.length<=A.length->A.Perm B
 | [],B,_,_,h=>by rw[Ju (Nat.le_zero.1 h)]
 | a :: A,B,hn,hs,hl=>by
  obtain⟨s,t,rfl⟩:=List.append_of_mem (hs a (by simp))
  have h1:=Ms.1 hn
  have ih:=ww A (s++t) h1.2 (λx hx=>by
   have:=hs x (by simp[hx])
   rcases JV.1 this with h|h
   ·exact JV.2 (.inl h)
   ·rcases Ki.1 h with e|e
    ·subst e;exact absurd hx h1.1
    ·exact JV.2 (.inr e)) (by simp at hl ⊢;omega)
  exact(ih.cons a).trans List.perm_middle.symm
open Classical in
theorem Dt {own:List Sd}(p:aD t K)(m:bf t (me:Int))(u:srt own):
  er t K (me:Int) own↔(∀ x∈bN K me,fy t own x\/¬rU t (me:Int) x)/\((bN K me).filter λx=>decide (fy t own x)).length=own.length:=by
 have w:=(p.there_iff me).1 m;have l:∀ a b:Nat,(a:Int)=(b:Int)->a=b:=λa b h=>by omega
 have n:(((bN K me).filter λx=>decide (fy t own x)).map λx:Nat=>(x:Int)).Nodup:=Mf.2 (((Dr K me).sublist List.filter_sublist).imp λ{a b} A e=>A (l _ _ e));have B:=Ds u;have j:∀ z,z∈((bN K me).filter λx=>decide (fy t own x)).map (λx:Nat=>(x:Int))->z∈own.map (·.node):=λz r=>by
  obtain⟨x,d,rfl⟩:=JO.1 r;obtain⟨s,k,C,_⟩:=Kz (Mu.1 d).2;exact JO.2 ⟨s,k,C⟩
 rw[nP,Jm];constructor
 ·rintro⟨_,_,I,H,G⟩
  have f:∀ s∈own,∃ x∈bN K me,(x:Int)=s.node/\fy t own x:=λs h=>by
   obtain⟨a,b,c⟩:=I s h;rcases a with a|⟨x,g,i,o⟩
   ·refine⟨2*me,by unfold bN;simp,by rw[a];omega,s,h,by rw[a];omega,b,?_⟩
    rw[c,a];congr 2
   ·refine⟨x,by unfold bN;simp[g],i,s,h,i.symm,b,?_⟩
    rw[c,<-i,Jm]
  refine⟨λx d=>?_,?_⟩
  ·rw[Classical.or_iff_not_imp_right,Kw]
   rintro⟨D,O⟩;have:∃ s∈own,s.node=(x:Int):=by
    unfold bN at d;rcases JV.1 d with d|d
    ·refine H x d ?_ O
     rcases p.odd (gU d) with e|⟨e,_⟩
     ·rw[e] at D;exact absurd rfl D
     ·exact e
    ·simp at d
     subst d;obtain⟨s,a,b⟩:=G;exact⟨s,a,by rw[b];omega⟩
   obtain⟨s,a,b⟩:=this;obtain⟨y,T,F,E⟩:=f s a;have:y=x:=l _ _ (by rw[F,b]);exact this▸E
  ·have v:(((bN K me).filter λx=>decide (fy t own x)).map λx:Nat=>(x:Int)).Perm (own.map (·.node)):=by
    refine(List.perm_ext_iff_of_nodup n B).2 λz=>⟨j z,λr=>?_⟩
    obtain⟨s,k,rfl⟩:=JO.1 r;obtain⟨x,g,i,o⟩:=f s k;exact JO.2 ⟨x,Mu.2 ⟨g,Jy o⟩,i⟩
   have:=v.length_eq;simpa using this
 ·rintro⟨k,C⟩
  have v:(((bN K me).filter λx=>decide (fy t own x)).map λx:Nat=>(x:Int)).Perm (own.map (·.node)):=
   ww _ _ n j (by simp[C])
  have f:∀ s∈own,∃ x∈bN K me,(x:Int)=s.node/\s.seed.length=32/\aJ s.seed=(ats t x).pub:=λs h=>by
   have:=v.symm.subset (JO.2 ⟨s,h,rfl⟩);obtain⟨x,d,e⟩:=JO.1 this;obtain⟨Q,P⟩:=Mu.1 d;obtain⟨J,N,M,L⟩:=Kz P;have:J=s:=wo u N h (by rw[M,e]);exact⟨x,Q,e,this▸L⟩
  refine⟨m,u,λs h=>?_,λx d S R=>?_,?_⟩
  ·obtain⟨x,g,i,o,q⟩:=f s h
   refine⟨?_,o,by rw[q,<-i,Jm]⟩;unfold bN at g;rcases JV.1 g with g|g
   ·refine .inr ⟨x,g,i,?_⟩
    rcases p.odd (gU g) with e|⟨e,_⟩
    ·rw[e] at q
     have:=congrArg List.length q;rw[ib] at this;cases this
    ·exact e
   ·simp at g
    exact .inl (by rw[<-i,g];omega)
  ·rcases k x (by unfold bN;simp[d]) with⟨s,a,b,_⟩|h
   ·exact⟨s,a,b⟩
   ·exact absurd ⟨by rw[S];decide,R⟩ h
  ·rcases k (2*me) (by unfold bN;simp) with⟨s,a,b,_⟩|h
   ·exact⟨s,a,by rw[b];omega⟩
   ·refine absurd ⟨by rw[w];decide,?_⟩ h
    rcases p.even me with e|⟨_,e,_⟩
    ·rw[e];simp[aY]
    ·rw[e];simp
theorem Du {me:Int}{own:List Sd}(h:er t K me own):srt own:=(nP.1 h).2.1
section
open Go.Maps
theorem infoSd:(prog.info? 90).map (λi=>(i.zero,i.size,i.bytes))=some (some (.agg #[.int .i64 0,.slice none 0 0]),2,32):=by kernel_rfl
theorem infoSe:(prog.info? 92).map (λi=>(i.zero,i.size,i.bytes))=some (some (.agg #[.slice none 0 0,.slice none 0 0]),2,48):=by kernel_rfl
theorem infoSt:(prog.info? 74).map (λi=>(i.zero,i.size,i.bytes))=some (some (.agg #[.slice none 0 0,.slice none 0 0]),2,48):=by kernel_rfl
theorem infoStp:(prog.info? 99).map (λi=>(i.zero,i.size,i.bytes))=some (some (.agg #[.int .i64 0,.slice none 0 0]),2,32):=by kernel_rfl
theorem infoRI:(prog.info? 34).map (λi=>(i.zero,i.size,i.bytes))=some (some (.slice none 0 0),1,24):=by kernel_rfl
theorem infoBy:(prog.info? 24).map (λi=>(i.zero,i.size,i.bytes))=some (some (.slice none 0 0),1,24):=by kernel_rfl
theorem infoN:(prog.info? 3).map (λi=>(i.zero,i.size,i.bytes))=some (some (.int .i64 0),1,8):=by kernel_rfl
theorem sdK:SK prog 23 90 2:=SK.mk' underlying23 infoSd (by decide) rfl
theorem seK:SK prog 72 92 2:=SK.mk' underlying72 infoSe (by decide) rfl
theorem stK:SK prog 25 74 2:=SK.mk' underlying25 infoSt (by decide) rfl
theorem stpK:SK prog 93 99 2:=SK.mk' underlying93 infoStp (by decide) rfl
theorem riK:SK prog 100 34 1:=SK.mk' underlying100 infoRI (by decide) rfl
theorem byK:SK prog 115 24 1:=SK.mk' underlying115 infoBy (by decide) rfl
theorem nK:SK prog 34 3 1:=SK.mk' underlying34 infoN (by decide) rfl
def shN:Sh Nat where
 k:=1
 pos:=by decide
 R:=λZ w vs x=>vs=[.int .i64 (x:Int)]
 len:=λe=>by rw[e];rfl
 one:=λe=>by rw[e];exact si rfl
 solid:=λe _=>e
 step:=λe _=>e
theorem aL.rn {l:List Nat}(h:aL shN w v l):RN w v l:=by
 obtain⟨a,c,e,q,p,o,n⟩:=h;refine⟨a,c,by rw[JI];exact e,by rw[JI];exact q,p,o,λx k i d=>?_⟩;rw[JI] at d;obtain⟨b,j,f,_,m⟩:=n (by omega);rw[k] at f;cases f;obtain⟨vs,g,rfl⟩:=m i _ (IV d);have:=g 0 _ rfl;rw[Addr.add_mid];simpa [shN,iv] using this
theorem GZ.anyN {a:Nat->Prop}{t:List Nat}(h:GZ shN e Z w B v t):GZ shN e a w B v t:=h
theorem SE.litZ {S:Sh α}{vs:List Value}{x:α}(e:TypeId)(h:S.R Z w vs x)(c:cs.toList=vs):SE S Z (w.alloc (.cells cs e)) (.slice (some ⟨w.heap.size,0,none⟩) 1 1) [x]:=by
 refine⟨_,1,rfl,Ja _,by unfold maxLen;omega,λh=>(by cases h),λ_=>⟨w.heap.size,0,rfl,by simp,λi y a=>?_⟩⟩;have f:i<1:=(JH.1 a).1;obtain rfl:i=0:=by omega
 cases a;refine⟨vs,λj z b=>?_,S.step h (am.of_kp ((Kp.refl w).alloc _))⟩;have d:=(Bx.new w e cs).cell j;subst c;rw[show 0+0*S.k+j=j by omega,d,<-MB];exact b
theorem ks (b:∀ x n c,v=.slice (some x) n c->0<n->x.block<w.heap.size)(a:∀ g,Z g->w.heap.size<=g):bq Z v:=λx n c e f d=>by
 have i:=b x n c e f;have h:=a _ d;omega
theorem cO {C:Nat}(b:∀ g,v.ownBlock=some g->C<=g)(a:∀ g,Z g->g<C):bq Z v:=λx n c e i d=>by
 have h:=b x.block (by rw[e];rfl);have f:=a _ d;omega
theorem GZ.se {S:Sh α}{t:List α}(h:GZ S e Z w B v t):SE S Z w v t:=by
 by_cases o:0<t.length
 ·obtain⟨g,c,rfl,l,d,a,n,m⟩:=h.form o
  refine⟨_,c,rfl,a,n,λh=>(by cases h),λ_=>⟨g,0,rfl,d,λi x k=>?_⟩⟩;rw[JS];obtain⟨vs,j,f⟩:=m i x k;exact⟨vs,j,S.mono f λ_ h=>.inr h⟩
 ·have b:t=[]:=Ju (by omega)
  subst b;obtain⟨us,a,_⟩:=h;rcases a.2 with⟨rfl,_⟩|⟨g,cap,cur,rfl,l,d,hn,hm,hs,b⟩
  ·exact SE.nil Z w
  ·exact⟨_,cap,rfl,hn,hm,λh=>(by cases h),λh=>absurd h (by simp)⟩
theorem SZ.moved {S:Sh α}{l:List α}(h:SZ S (λg=>some g=v.ownBlock\/Z g) w x l)(a:w.grownBy w' v.ownBlock)(b:c.ownBlock=v.ownBlock\/c.ownBlock=some w.heap.size):SZ S (λg=>some g=c.ownBlock\/Z g) w' x l:=by
 have j:SZ S (λg=>(some g=v.ownBlock\/Z g)\/w.heap.size<=g) w x l:=h.solidly λg a=>a.imp id λa d=>by have:=d.lt;omega
 have i:SZ S (λg=>(some g=v.ownBlock\/Z g)\/w.heap.size<=g) w' x l:=j.step ⟨a.os,a.tape,a.output,a.size,λk b f=>a.block k b (λe=>f (.inl (.inl e)))⟩;refine i.mono λg e=>?_
 rcases e with e|e
 ·rcases b with b|b
  ·exact .inl (.inl (by rw[<-b];exact e))
  ·rw[b] at e
   simp only[JL] at e;exact .inr (by omega)
 ·exact .inl (.inr e)
theorem RZ.moved {l:List UInt8}(h:RZ (λg=>some g=v.ownBlock\/Z g) w x l)(a:w.grownBy w' v.ownBlock)(b:c.ownBlock=v.ownBlock\/c.ownBlock=some w.heap.size):RZ (λg=>some g=c.ownBlock\/Z g) w' x l:=by
 have j:RZ (λg=>(some g=v.ownBlock\/Z g)\/w.heap.size<=g) w x l:=h.solid λg a=>a.imp id λa d=>by have:=d.lt;omega
 have i:RZ (λg=>(some g=v.ownBlock\/Z g)\/w.heap.size<=g) w' x l:=j.step ⟨a.os,a.tape,a.output,a.size,λk b f=>a.block k b (λe=>f (.inl (.inl e)))⟩;refine i.mono λg e=>?_
 rcases e with e|e
 ·rcases b with b|b
  ·exact .inl (.inl (by rw[<-b];exact e))
  ·rw[b] at e
   simp only[JL] at e;exact .inr (by omega)
 ·exact .inl (.inr e)
theorem RZ.kp {l:List UInt8}(h:RZ Z w v l)(k:Kp w w'):RZ Z w' v l:=h.step (am.of_kp k)
theorem SZ.kp {S:Sh α}{l:List α}(h:SZ S Z w v l)(k:Kp w w'):SZ S Z w' v l:=h.step (am.of_kp k)
theorem SL.nodeK (h:SL w v l)(d:i<l.length):
  ∃ b a c q,v=.slice (some ⟨b,a,none⟩) l.length c/\b<w.heap.size/\∀ W,Kp w W->W.cell? ⟨b,a+i*2,none⟩=some (.int .i64 (aO l i).node)/\W.cell? ⟨b,a+i*2+1,none⟩=some q/\Rd W q (aO l i).seed:=by
 obtain⟨b,a,c,q,e,f,j,g,r⟩:=SL.node h d;exact⟨b,a,c,q,e,f,λW k=>⟨k.cell j,k.cell g,r.kp k⟩⟩
theorem SZ.nodeZ (h:SZ bY Z w v l)(f:i<l.length):
  ∃ b d c q,v=.slice (some ⟨b,d,none⟩) l.length c/\b<w.heap.size/\(∀ W,Kp w W->W.cell? ⟨b,d+i*2,none⟩=some (.int .i64 (aO l i).node)/\W.cell? ⟨b,d+i*2+1,none⟩=some q/\Rd W q (aO l i).seed)/\bq Z q:=by
 obtain⟨a,c,rfl,t,s⟩:=SE.shape h.1;obtain⟨b,d,rfl,o,n⟩:=SE.at h.1 (by omega);obtain⟨vs,m,j⟩:=n i l[i] (IV f);obtain⟨q,r,p,g⟩:=tP m j;have e:aO l i=l[i]:=by unfold aO;rw[IU,IV f];rfl
 rw[e];exact⟨b,d,c,q,rfl,o,λW k=>⟨k.cell r,k.cell p,g.1.kp k⟩,g.2⟩
theorem EL.nodeK {l:List Se}(h:EL w v l)(g:i<l.length):
  ∃ b a c p q,v=.slice (some ⟨b,a,none⟩) l.length c/\b<w.heap.size/\∀ W,Kp w W->W.cell? ⟨b,a+i*2,none⟩=some p/\W.cell? ⟨b,a+i*2+1,none⟩=some q/\Rd W p (aM l i).half/\Rd W q (aM l i).b:=by
 obtain⟨b,a,c,p,q,e,j,n,m,f,d⟩:=EL.node h g;exact⟨b,a,c,p,q,e,j,λW k=>⟨k.cell n,k.cell m,f.kp k,d.kp k⟩⟩
theorem eo.nodeK {l:List St}(h:eo w v l)(g:i<l.length):
  ∃ b a c p q,v=.slice (some ⟨b,a,none⟩) l.length c/\b<w.heap.size/\∀ W,Kp w W->W.cell? ⟨b,a+i*2,none⟩=some p/\W.cell? ⟨b,a+i*2+1,none⟩=some q/\Rd W p (aC l i).pub/\EL W q (aC l i).fors:=by
 obtain⟨b,a,c,p,q,e,j,n,m,f,d⟩:=eo.node h g;exact⟨b,a,c,p,q,e,j,λW k=>⟨k.cell n,k.cell m,f.kp k,aL.kp d k⟩⟩
end
theorem sL (aa:Value)(t:List Nod)(i:Int)(w:World)(f:NL w aa t)(m:t.length<=100000):
  Calls prog 25 #[aa,.int .i64 i] w λe w'=>e=.returned (.bool (decide (bf t i)))/\w=w':=by
 have n:=Lib.hid (iP aa t w f m);have l:=iO (t:=t) m;obtain⟨a,c,rfl,p1,A⟩:=f.shape;by_cases s:0<=i
 ·obtain⟨k,rfl⟩:=Jq s
  by_cases y:k<lvs t
  ·have d:=lN y
   obtain⟨b,u,rfl,x,r⟩:=f.at (2*k) d;obtain⟨p,q,h,o⟩:=r (2*k) d;have D:=o.kind;have C:IntKind.i64.wrap (2*(k:Int))=((2*k:Nat):Int):=by rw[IW _ (by omega)];omega
   have B:((2*k:Nat):Int)<(t.length:Int):=by omega
   have v:(k:Int)<((lvs t:Nat):Int):=by omega
   have e:decide (bf t (k:Int))=decide ((ats t (2*k)).kind=1):=decide_eq_decide.2 ⟨λh=>by have:=h.2.2;rwa [Jm] at this,λh=>⟨by omega,by omega,by rw[Jm];exact h⟩⟩;rw[e];generalize (ats t (2*k)).kind=X at *;generalize lvs t=L at *;generalize t.length=N at *;generalize 2*k=E at *;clear r o f e x d;go_enter func25,ntmps25;go_wp2_with fail;refine n.out.mono ?_;rintro _ _ ⟨rfl,rfl⟩;by_cases j:X=1
   ·subst j
    go_wp2_with fail;go_ret;exact⟨rfl,rfl⟩
   ·have g:(X==1)=false:=Jd.2 j
    have z:=Lib.hid (Jr j);go_wp2_with fail;go_ret;exact⟨by rw[z.out] <;> first|rfl|simp[g],rfl⟩
  ·have e:decide (bf t (k:Int))=false:=Jr λh=>by have:=h.2.1;omega
   have v:¬(k:Int)<((lvs t:Nat):Int):=by omega
   rw[e];generalize lvs t=L at *;generalize t.length=N at *;clear f e;go_enter func25,ntmps25;go_wp2_with fail;refine n.out.mono ?_;rintro _ _ ⟨rfl,rfl⟩;go_wp2_with fail;go_ret;exact⟨rfl,rfl⟩
 ·have e:decide (bf t i)=false:=Jr λh=>s h.1
  rw[e];generalize t.length=N at *;clear f e n l m;go_enter func25,ntmps25;go_wp2_with fail;go_ret;exact⟨rfl,rfl⟩
theorem SL.shape (h:SL w v l):∃ a c,v=.slice a l.length c/\l.length<=c/\c<=maxLen:=SE.shape h
theorem yo (h:m<K):(cQ K 0 i).getD m 0=nd m (sq (i / 2 ^ m)):=by
 unfold cQ;rw[IU,JQ,Ly (by omega)];simp
theorem yr (h:m<K):(aK K 0 i).getD m 0=nd (m+1) (i / 2 ^ (m+1)):=by
 unfold aK;rw[IU,JQ,Ly (by omega)];simp[Mb]
theorem od (K i:Nat):(aK K 0 i).length=K:=by unfold aK;simp
theorem yt (K i:Nat):(cQ K 0 i).length=K:=by unfold cQ;simp
theorem FQ (h:(cA t i m).length=0):aA t i (m+1)=aA t i m/\aU t i (m+1)=aU t i m:=by
 unfold aA aU;rw[show ixS t i (m+1)=ixS t i m by rw[ixS];rw[if_pos h]];exact⟨rfl,rfl⟩
theorem FR (h:(cA t i m).length≠0):aA t i (m+1)=aA t i m++[nd (m+1) (i / 2 ^ (m+1))]/\aU t i (m+1)=aU t i m++[cA t i m]:=by
 unfold aA aU;rw[show ixS t i (m+1)=ixS t i m++[m] by rw[ixS];rw[if_neg h],Kx,Kx];exact⟨rfl,rfl⟩
theorem yu (t:List Nod)(i m:Nat):(aA t i m).length<=m/\(aU t i m).length<=m:=by
 have:=fY t i m;have:=kn t i m;omega
structure Two (e1 e2:TypeId)(w:World)(B:Nat)(v1 v2:Value)(l1:List Nat)(l2:List (List Int)):Prop where
 mk ::
 a:GZ shN e1 noB w B v1 l1
 b:GZ iR e2 (λg=>some g=v1.ownBlock) w B v2 l2
 ne:∀ g,v1.ownBlock=some g->v2.ownBlock≠some g
theorem Two.kp {i g:TypeId}{f:List Nat}{e:List (List Int)}(h:Two i g w B d c f e)(k:Kp w w'):Two i g w' B d c f e:=⟨h.a.kp k,h.b.kp k,h.ne⟩
theorem Two.nil (b a:TypeId)(w:World)(B:Nat):Two b a w B (.slice none 0 0) (.slice none 0 0) [] []:=⟨GZ.nil _ _ _,GZ.nil _ _ _,λg h=>by cases h⟩
theorem Two.one {t n:TypeId}{i f:Value}{u m:List Nat}{l:List (List Int)}(h:Two t n w B i j u l)(y:GZ shN t noB w' B f m)(a:w.grownBy w' i.ownBlock)(d:f.ownBlock=i.ownBlock\/f.ownBlock=some w.heap.size):Two t n w' B f j m l:=by
 have x:GZ iR n (λg=>some g=i.ownBlock) w' B j l:=h.b.step (Y:=λg=>some g=i.ownBlock) ⟨a.os,a.tape,a.output,a.size,λk p o=>a.block k p o⟩ (λg a=>.inl a) (λg a q=>h.ne g q.symm a);have s:GZ iR n (λg=>some g=i.ownBlock\/w.heap.size<=g) w B j l:=h.b.solidly λg a=>a.elim (λh=>.inr (.inl h)) λh=>.inr (.inr λv=>by have:=v.lt;omega)
 have r:GZ iR n (λg=>some g=i.ownBlock\/w.heap.size<=g) w' B j l:=s.step (Y:=λg=>some g=i.ownBlock) ⟨a.os,a.tape,a.output,a.size,λk p o=>a.block k p o⟩ (λg a=>.inl (.inl a)) (λg a q=>h.ne g q.symm a);refine⟨y,?_,λg c e=>?_⟩
 ·rcases d with d|d
  ·rw[d];exact x
  ·refine r.solidly λg c=>.inr (.inl (.inr ?_))
   rw[d] at c;cases c;exact Ja _
 ·rcases d with d|d
  ·exact h.ne g (d▸c) e
  ·rw[d] at c
   cases c;have:=(h.b.lt _ e).2;omega
theorem Two.two {o n:TypeId}{l b:Value}{m:List Nat}{p f:List (List Int)}(h:Two o n w B l d m p)(t:GZ iR n (λg=>some g=l.ownBlock) w' B b f)(c:w.grownBy w' d.ownBlock)(i:b.ownBlock=d.ownBlock\/b.ownBlock=some w.heap.size):Two o n w' B l b m f:=by
 refine⟨?_,t,λg j e=>?_⟩
 ·have u:GZ shN o (λg=>some g=d.ownBlock) w B l m:=h.a.anyN
  exact(u.step (Y:=λg=>some g=d.ownBlock) ⟨c.os,c.tape,c.output,c.size,λk r q=>c.block k r q⟩ (λg c=>.inl c) (λg c s=>h.ne g c s.symm)).anyN
 ·rcases i with i|i
  ·exact h.ne g j (i▸e)
  ·rw[i] at e
   cases e;have:=(h.a.lt _ j).2;omega
theorem FT {A z:TypeId}{wr i s:World}{t l:Value}{v:List Nat}{u:List (List Int)}{q:List Int}{o:Obj}(m:Two A z wr B j t v u)(p:OI e i wr.heap.size r q)(f:(i.alloc o).grownBy s j.ownBlock)
  (h:l.ownBlock=j.ownBlock\/l.ownBlock=some (i.alloc o).heap.size):RI s r q/\bq (λg=>some g=t.ownBlock\/some g=l.ownBlock) r:=by
 have y:RI (i.alloc o) r q:=p.ri.kp ((Kp.refl _).alloc _);refine⟨y.stepF (Y:=λg=>some g=j.ownBlock) ⟨f.os,f.tape,f.output,f.size,λk d w=>f.block k d w⟩ (cO (C:=wr.heap.size) (λg f=>(p.lt g f).1) λg f=>(m.a.lt g f.symm).2),λx n c e E d=>?_⟩;have D:=p.lt x.block (by rw[e];rfl);rcases d with d|d
 ·have:=(m.b.lt _ d.symm).2
  omega
 ·rcases h with h|h
  ·have:=(m.a.lt _ (h▸d.symm)).2
   omega
  ·rw[h] at d
   simp only[JL,Jn] at d;omega
theorem yv (aa:Value)(t:List Nod)(K i:Nat)(w:World)(Q:NL w aa t)(n:aD t K)(hi:i<2 ^ K):
  Calls prog 41 #[aa,.int .i64 (i:Int)] w λe w'=>(∃ a b,e=.returned (.tuple #[a,b])/\RN w' a (aA t i K)/\aL iR w' b (aU t i K))/\Kp w w':=by
 obtain⟨z1,z2,z3⟩:=n.small;have hp:=bP n.le;have al:=n.le;have HL:=Lib.hid (iP aa t w Q (by omega));rw[n.lv] at HL;have HP:=Lib.hid (λW=>vQ K 0 i W n.le (Jl _) (by simpa using hi));have HC:=Lib.hid (λW=>CK K 0 i W n.le (Jl _) (by simpa using hi));have j:=Lib.hid (fun(m:Nat) W (hW:Kp w W)=>DH aa t K ((nd m (sq (i / 2 ^ m)):Nat):Int) W (Q.kp hW) n);rw[fa] at HP HC;have A:=Lib.hid (λm (h:m<K)=>yo (i:=i) h);have v:=Lib.hid (λm (h:m<K)=>yr (i:=i) h);have ai:=Lib.hid (od K i);have ak:=Lib.hid (yt K i);have s:=Lib.hid (λm=>FQ (t:=t) (i:=i) (m:=m));have q:=Lib.hid (λm=>FR (t:=t) (i:=i) (m:=m));have u:=Lib.hid (λm=>yu t i m);have HW:Hid (∀ m,gR t ((nd m (sq (i / 2 ^ m)):Nat):Int)=cA t i m):=λm=>rfl
 have i2:IntKind.i64.wrap (2*(i:Int))=((2*i:Nat):Int):=by rw[IW _ (by omega)];omega
 generalize aK K 0 i=PT at *;generalize cQ K 0 i=CT at *;have H:Hid (aA t i 0=[]/\aU t i 0=[]):=⟨rfl,rfl⟩;generalize ae:aA t i=ST at *;generalize ab:aU t i=U at *;generalize ad:cA t i=WF at *;generalize af:2 ^ K=L at *;obtain⟨a,c,rfl,p1,s1⟩:=Q.shape;obtain⟨N,hN⟩:∃ N,t.length=N:=⟨_,rfl⟩;rw[hN] at HL j p1 z1 ⊢;generalize ag:2*i=I2 at *;clear Q n hi af ae ab ad z2 z3 hN ag;go_enter func41,ntmps41;go_wp2_with fail;refine HL.out.mono ?_;rintro _ _ ⟨rfl,rfl⟩;go_wp2_with fail;refine(HP.out w).mono ?_;rintro _ w1 ⟨⟨pv,rfl,o1⟩,k1⟩;have O:=o1.rn;obtain⟨ap,cp,e1,p2,s2⟩:=O.shape;subst e1;rw[ai.out] at O p2 ⊢;have R1:=Lib.hid O;have K1:=Lib.hid k1;clear o1 O k1 HP;go_wp2_with fail;refine(HC.out w1).mono ?_;rintro _ w2 ⟨⟨cv,rfl,M⟩,k2⟩;obtain⟨ac,cc,e2,p3,s3⟩:=M.shape;subst e2;rw[ak.out] at M p3 ⊢;have R2:=Lib.hid (Jb (R1.out.kp k2) (Jb M (K1.out.trans k2)));clear M k2 HC R1 K1 HL;go_wp2_with fail;go_loopw[11,12,13] (λx y z wr=>∃ m:Nat,m<=K/\z=.int .i64 (m:Int)/\Two 3 34 wr w2.heap.size x y (ST m) (U m)/\Kp w2 wr) (λx y z _=>(K - (intOf z).toNat))
 case atStart=>exact⟨0,Jl _,rfl,by rw[H.out.1,H.out.2];exact Two.nil _ _ _ _,Kp.refl _⟩
 case round=>
  obtain⟨m,hm,rfl,ht,E⟩:=hrel;have f:=Lib.hid (Jb ht E);clear ht E;by_cases d:m<K
  ·obtain⟨gp,op,rfl,_,F⟩:=(R2.out.1.kp f.out.2).at m d
   obtain⟨gc,oc,rfl,_,G⟩:=(R2.out.2.1.kp f.out.2).at m d;have R:=F m d;have c2:=G m d;rw[v.out m d] at R;rw[A.out m d] at c2;have i1:IntKind.i64.wrap ((m:Int)+1)=(m:Int)+1:=IW _ (by omega);have i3:(m:Int)<(K:Int):=by omega
   have HR:=Lib.hid (j.out m wr (R2.out.2.2.trans f.out.2));rw[HW.out m] at HR;have aj:=Lib.hid (u.out m);have J:=Lib.hid (s.out m);have I:=Lib.hid (q.out m);have B:Hid (∀ W,Kp wr W->W.cell? ⟨gp,op+m,none⟩=some (.int .i64 ((nd (m+1) (i / 2 ^ (m+1)):Nat):Int))):=λW hW=>hW.cell R
   generalize nd (m+1) (i / 2 ^ (m+1))=X at *;generalize nd m (sq (i / 2 ^ m))=Y at *;clear F G j A v s q u HW;go_wp2_with fail;refine HR.out.mono ?_;rintro _ w3 ⟨⟨r,rfl,P⟩,C⟩;have O3:=Lib.hid P;have K3:=Lib.hid C;have V:=Lib.hid (f.out.1.kp C);have KW:=Lib.hid (f.out.2.trans C);have c3:=B.out w3 C;have p:=P.ri;obtain⟨ar,cr,e3,p4,s4⟩:=p.shape;subst e3;generalize WF m=T at *;by_cases h0:T.length=0
   ·have ah:¬(0:Int)<(T.length:Int):=by omega
    have l:=Lib.hid (J.out h0);clear P C p HR R c2 B I;go_wp2_with fail;go_roundw
    case rel=>exact⟨m+1,by omega,by go_num,by rw[l.out.1,l.out.2];exact V.out,KW.out⟩
    case measure=>simp[intOf];omega
   ·have ah:(0:Int)<(T.length:Int):=by omega
    have l:=Lib.hid (I.out h0);clear P C p HR R c2 B J h0;have D:(ST m).length+1<=1000000/\(U m).length+1<=1000000:=by have:=aj.out;omega
    have HB:Hid (w2.heap.size<=w3.heap.size):=KW.out.size;go_wp2_with(first
     | (at_builtin;refine fq (S:=shN) (Z:=noB) (o:=⟨some 52,_,_,_,_,_⟩) nK rfl _ _ rfl w2.heap.size _ (ST m) rfl (V.out.a.kp ((Kp.refl _).alloc _)) _ [X] rfl (SE.litZ (S:=shN) 3 rfl rfl) (by exact D.1) (Js HB.out (by simp)) ?_;intro v4 w4 o4 g4 q4;have t4:Two 3 34 w4 w2.heap.size v4 _ (ST m++[X]) (U m):=Two.one (V.out.kp ((Kp.refl _).alloc _)) o4 g4 q4;have k4:Kp w2 w4:=Kp.grown (KW.out.alloc _) g4 (λk hk=>(V.out.a.lt k hk).1);have R4:=Lib.hid (FT f.out.1 O3.out g4 q4);have T4:=Lib.hid t4;have K4:=Lib.hid k4)
     | (at_builtin;refine fq (S:=iR) (Z:=λg=>some g=v4.ownBlock) (o:=⟨some 56,_,_,_,_,_⟩) riK rfl _ _ rfl w2.heap.size _ (U m) rfl (T4.out.b.kp ((Kp.refl _).alloc _)) _ [T] rfl (SE.litZ (S:=iR) 34 ⟨_,rfl,R4.out.1,R4.out.2⟩ rfl) (by exact D.2) (Js K4.out.size (by simp)) ?_;intro v5 w5 o5 g5 q5;have T5:=Lib.hid (Two.two (T4.out.kp ((Kp.refl _).alloc _)) o5 g5 q5);have K5:Hid (Kp w2 w5):=Kp.grown (K4.out.alloc _) g5 (λk hk=>(T4.out.b.lt k hk).1)))
    go_roundw
    case rel=>exact⟨m+1,by omega,by go_num,by rw[l.out.1,l.out.2];exact T5.out,K5.out⟩
    case measure=>simp[intOf];omega
  ·obtain rfl:m=K:=by omega
   have h1:¬(m:Int)<(m:Int):=by omega
   have l:=Lib.hid (Jb f.out.1.a.gl.rn (Jb f.out.1.b.gl (R2.out.2.2.trans f.out.2)));clear j A v s q u HW;go_wp2_with fail;go_ret2;exact⟨⟨_,_,rfl,l.out.1,l.out.2.1⟩,l.out.2.2⟩
def Sly (w:World)(g:Nat):Prop:=∃ (T:TypeId) (cs:Array Value),Bx w g T cs/\∀ (j:Nat) (z:Value),cs[j]?=some z->∃ a n c,z=Value.slice a n c
theorem sM {s r q p o:Option Addr}{f e d c b l:Nat}(h:Bx w g T #[.slice s f n,.slice r e m,.slice q d l,.slice p c k,.slice o b i]):Sly w g:=
 ⟨T,_,h,λj z a=>by
  match j with
  | 0=>cases a;exact⟨_,_,_,rfl⟩
  | 1=>cases a;exact⟨_,_,_,rfl⟩
  | 2=>cases a;exact⟨_,_,_,rfl⟩
  | 3=>cases a;exact⟨_,_,_,rfl⟩
  | 4=>cases a;exact⟨_,_,_,rfl⟩
  | j+5=>simp at a⟩
theorem Sly.no (h:Sly w g){x:Addr}{k:IntKind}{n:Int}(i:x.block=g)(b:w.cell? x=some (.int k n)):False:=by
 obtain⟨T,cs,j,f⟩:=h;subst i;unfold World.cell? at b;have d:w.heap[x.block]?=some (.cells cs T (0,0)):=j;rw[d] at b;dsimp only at b
 split at b
 ·cases b
 ·obtain⟨a,n,c,e⟩:=f _ _ b
  cases e
theorem Rd.sly {l:List UInt8}(h:Rd w v l)(b:Sly w g):bq (λk=>k=g) v:=λx n c e i d=>by
 obtain⟨q,p,a,o,m,j,f⟩:=h;rw[e] at a;simp only[Ji] at a;obtain⟨rfl,rfl,rfl⟩:=a;exact b.no (by rw[fo];exact d) (f x rfl 0 i)
theorem RI.sly {l:List Int}(h:RI w v l)(d:Sly w g):bq (λk=>k=g) v:=λx n c e j f=>by
 obtain⟨r,q,a,p,o,m,i⟩:=h;rw[e] at a;simp only[Ji] at a;obtain⟨rfl,rfl,rfl⟩:=a;have b:=i x rfl 0 j;rw[List.getElem_map] at b;exact d.no (by rw[fo];exact f) b
theorem NL.sly (h:NL w v t)(m:Sly w g)(f:am (λk=>k=g) w w'):NL w' v t:=by
 obtain⟨a,c,e,F,E,D,C⟩:=h;refine⟨a,c,e,F,E,D,λy=>?_⟩;obtain⟨b,l,B,A,s⟩:=C y;obtain⟨H,u0,G,o⟩:=s 0 y;have n:b≠g:=λe=>m.no (x:=⟨b,l+0*5,none⟩) e o.kind
 refine⟨b,l,B,Jh A f.size,λi r=>?_⟩;obtain⟨p,u,q,d⟩:=s i r;exact⟨p,u,q,λj v z=>f.cell (d.1 j v z) n,d.2.pub.stepF f (d.2.pub.sly m),d.2.un.stepF f (d.2.un.sly m),d.2.hash.stepF f (d.2.hash.sly m)⟩
theorem am.wide (h:am Y w w')(c:∀ g,Y g->Z g):am Z w w':=⟨h.os,h.tape,h.output,h.size,λq a b=>h.block q a λe=>b (c q e)⟩
theorem pX {s p o n:Value}(m:Bx w g T #[s,r,p,o,n])(f d c b a:Value):
  Bx (((((w.setCell ⟨g,0,none⟩ f).setCell ⟨g,1,none⟩ d).setCell ⟨g,2,none⟩ c).setCell ⟨g,3,none⟩ b).setCell ⟨g,4,none⟩ a) g T #[f,d,c,b,a]
  /\ am (λk=>k=g) w (((((w.setCell ⟨g,0,none⟩ f).setCell ⟨g,1,none⟩ d).setCell ⟨g,2,none⟩ c).setCell ⟨g,3,none⟩ b).setCell ⟨g,4,none⟩ a)
  /\ ∀ w0,Kp w0 w->w0.heap.size<=g->Kp w0 (((((w.setCell ⟨g,0,none⟩ f).setCell ⟨g,1,none⟩ d).setCell ⟨g,2,none⟩ c).setCell ⟨g,3,none⟩ b).setCell ⟨g,4,none⟩ a):=by
 have h:=fF w g 0 [f,d,c,b,a] 0;exact⟨m.fill #[f,d,c,b,a] rfl,⟨h.os,h.tape,h.output,h.size,λq i j=>h.block q i λe=>j (by cases e;rfl)⟩,λw0 k l=>k.setCells l [f,d,c,b,a] 0⟩
section
open Go.Maps
section
variable {P : Program} {k : TypeId} {w w' : World} {m n : Nat} {S : Sd -> Prop}
variable {ops : Array Oper} {o : Oper} {a : Act} {K' : Act -> World -> Prop} {Q : Exit -> Act -> World -> Prop} {e : TypeId} {E : Prop}
theorem yV (t:TypeId)(K:Keyed P k)(o:P.underlying t=some (.map k e))(h:KM P k w m n S)(q:n<maxLen)(s:Sd)(v:Value)(b:keyOf P k (.int .i64 s.node)=some (.int .i64 s.node))(p:gI w v s):
  ∃ w',(Instr.mapUpdate t (.map (some m)) (.int .i64 s.node) v).run P w=.ok () w'/\KM P k w' m (n+1) (λy=>y=s\/(S y/\y.node≠s.node))/\w.grownBy w' (some m):=by
 obtain⟨⟨D,d,j,i⟩,g⟩:=h;have c:=(KM.mk ⟨D,d,j,i⟩ g:KM P k w m n S).nosolid;obtain⟨w',a,l,f⟩:=d.update K o q b (show eA v=some (.held v,[]) from rfl);exact⟨w',a,KM.put g d.isMap j i (Cs.grown f c) p l,f⟩
theorem sX (t:TypeId)(K:Keyed P k)(g:P.underlying t=some (.map k e)){z:Value}(d:(zeroValue e).run P w=.ok z w)(h:KM P k w m n S)(s:Sd)(i:S s)(b:keyOf P k (.int .i64 s.node)=some (.int .i64 s.node)):
  ∃ q,(Instr.lookup t (.map (some m)) (.int .i64 s.node) false).run P w=.ok (sdV s.node q) w/\Rd w q s.seed:=by
 obtain⟨⟨D,l,A,j⟩,y⟩:=h;obtain⟨v,r,q,rfl,p⟩:=j s i;obtain⟨c,u,a,f⟩:=l.lookup K g d (R:=eA) (zd:=.held z) (zp:=[]) rfl b;have o:DataW.held c=.held (sdV s.node q):=by
  have:=congrArg (λx=>x.map Prod.fst) f;simpa [eA,r] using this
 cases o;exact⟨q,a,p⟩
end
def cj (w:World)(g:Nat):Prop:=∀ (x:Addr) (n:Int),x.block=g->w.cell? x≠some (.int .u8 n)
theorem cj.map (h:¬bX w g):cj w g:=λx n e a=>h (e▸bX.of_cell a)
theorem cj.box (h:Bx w g T cs)(c:∀ (j:Nat) (z:Value),cs[j]?=some z->∀ n,z≠.int .u8 n):cj w g:=λx n e a=>by
 subst e;unfold World.cell? at a;have b:w.heap[x.block]?=some (.cells cs T (0,0)):=h;rw[b] at a;dsimp only at a
 split at a
 ·cases a
 ·exact c _ _ a n rfl
theorem Rd.free8 {l:List UInt8}(h:Rd w v l)(b:cj w g):bq (λk=>k=g) v:=λx n c e i d=>by
 obtain⟨q,p,a,o,m,j,f⟩:=h;rw[e] at a;simp only[Ji] at a;obtain⟨rfl,rfl,rfl⟩:=a;exact b _ _ (by rw[fo];exact d) (f x rfl 0 i)
theorem Rd.step8 {l:List UInt8}(h:Rd w v l)(a:am Y w w')(d:∀ g,Y g->cj w g):Rd w' v l:=
 h.stepF a λx n c e f b=>h.free8 (d _ b) x n c e f rfl
theorem aL.bytesAt {l:List (List UInt8)}(h:aL fZ w v l)(m:∀ g,Y g->cj w g)(k:bq Y v)(j:i<l.length):
  ∃ b a c q,v=.slice (some ⟨b,a,none⟩) l.length c/\(∀ x n p,q=.slice (some x) n p->0<n->x.block<w.heap.size)/\∀ W,am Y w W->W.cell? ⟨b,a+i,none⟩=some q/\Rd W q (kr l i):=by
 obtain⟨b,a,c,q,e,s,o,r⟩:=aL.bs h j;exact⟨b,a,c,q,e,r.inside,λW d=>⟨d.cell o (λf=>k ⟨b,a,none⟩ l.length c e (by omega) f),r.step8 d m⟩⟩
structure bo (P:Program)(k:TypeId)(Z:Nat->Prop)(w:World)(m n:Nat)(S:Sd->Prop):Prop where
 mk ::
 ex:∃ D,w.ownsMap P k eA m n D/\(∀ x:Int,Maps.has D (.int .i64 x)=true↔∃ s,S s/\s.node=x)/\∀ s,S s->∃ q,(∀ zd,D.atKey (.int .i64 s.node) zd=.held (sdV s.node q))/\RZ Z w q s.seed
 one:∀ s s',S s->S s'->s.node=s'.node->s=s'
section
variable {P : Program} {k : TypeId} {Z : Nat -> Prop} {w w' : World} {m n : Nat} {S : Sd -> Prop}
theorem bo.km (h:bo P k Z w m n S):KM P k w m n S:=by
 obtain⟨⟨D,g,f,e⟩,d⟩:=h;refine⟨⟨D,g,f,λs c=>?_⟩,d⟩;obtain⟨q,a,b⟩:=e s c;exact⟨_,a,q,rfl,b.1⟩
theorem KM.kz (h:KM P k w m n S):bo P k (λg=>w.heap.size<=g) w m n S:=by
 obtain⟨⟨D,j,i,f⟩,d⟩:=h;refine⟨⟨D,j,i,λs b=>?_⟩,d⟩;obtain⟨v,a,q,rfl,r⟩:=f s b;exact⟨q,a,r,λx n c e l o=>by have:=r.inside x n c e l;omega⟩
theorem bo.mono {b:Nat->Prop}(h:bo P k Z w m n S)(c:∀ g,b g->Z g):bo P k b w m n S:=by
 obtain⟨⟨D,j,i,f⟩,e⟩:=h;refine⟨⟨D,j,i,λs d=>?_⟩,e⟩;obtain⟨q,a,r⟩:=f s d;exact⟨q,a,r.mono c⟩
theorem bo.congr (h:bo P k Z w m n S){S':Sd->Prop}(a:∀ s,S' s↔S s):bo P k Z w m n S':=by
 have:S'=S:=funext λs=>propext (a s)
 rw[this];exact h
theorem bo.olds (h:bo P k Z w m n S):bo P k (λg=>Z g\/w.heap.size<=g) w m n S:=by
 obtain⟨⟨D,i,f,e⟩,d⟩:=h;refine⟨⟨D,i,f,λs b=>?_⟩,d⟩;obtain⟨q,a,r⟩:=e s b;exact⟨q,a,r.solid λg c=>c.imp id λc b=>by have:=b.lt;omega⟩
theorem bo.step (h:bo P k Z w m n S)(d:am Y w w')(o:∀ g,Y g->Z g\/cj w g)(i:¬Y m):bo P k Z w' m n S:=by
 have j:=h.km.lt;obtain⟨⟨D,⟨A,c,z,t⟩,y,v⟩,u⟩:=h;refine⟨⟨D,⟨A,c,(d.block m j i).trans z,t⟩,y,λs b=>?_⟩,u⟩;obtain⟨q,a,r⟩:=v s b;exact⟨q,a,r.1.stepF d λx n c e f l=>(o _ l).elim (r.2 x n c e f) λp=>r.1.free8 p x n c e f rfl,r.2⟩
theorem bo.kp (h:bo P k Z w m n S)(a:Kp w w'):bo P k Z w' m n S:=h.step (Y:=λ_=>False) (am.of_kp a) (λg b=>b.elim) (λh=>h)
theorem bo.moved (h:bo P k (λg=>some g=v.ownBlock) w m n S)(a:w.grownBy w' v.ownBlock)(b:c.ownBlock=v.ownBlock\/c.ownBlock=some w.heap.size)(i:some m≠v.ownBlock):bo P k (λg=>some g=c.ownBlock) w' m n S:=by
 have j:=h.olds.step (Y:=λg=>some g=v.ownBlock) ⟨a.os,a.tape,a.output,a.size,λq d f=>a.block q d λe=>f e⟩ (λg a=>.inl (.inl a)) i;refine j.mono λg e=>?_
 rcases b with b|b
 ·exact .inl (by rw[<-b];exact e)
 ·rw[b] at e
  simp only[JL] at e;exact .inr (by omega)
theorem Hq {t:TypeId}(K:Keyed P k)(C:P.underlying t=some (.map k e))(h:bo P k Z w m n S)(E:n<maxLen)(s:Sd)(q:Value)(f:keyOf P k (.int .i64 s.node)=some (.int .i64 s.node))(c:RZ Z w q s.seed):
  ∃ w',(Instr.mapUpdate t (.map (some m)) (.int .i64 s.node) (.agg #[.int .i64 s.node,q])).run P w=.ok () w'/\bo P k Z w' m (n+1) (λy=>y=s\/(S y/\y.node≠s.node))/\w.grownBy w' (some m):=by
 have i:=h.km.nosolid;obtain⟨⟨D,g,v,u⟩,F⟩:=h;obtain⟨w',d,p,o⟩:=g.update K C E f (show eA (.agg #[.int .i64 s.node,q])=some (.held (sdV s.node q),[]) from rfl);have r:WideAt.IsKeyLit (.int .i64 s.node):=trivial;have l:Cs w w':=Cs.grown o i;have j:=KM.put (w:=w) (w':=w') (m:=m) (n:=n+1) F g.isMap v (λs c=>by
  obtain⟨q,a,b⟩:=u s c;exact⟨_,a,q,rfl,b.1⟩) l ⟨q,rfl,c.1⟩ p
 refine⟨w',d,⟨⟨_,p,?_,λy B=>?_⟩,j.one⟩,o⟩
 ·intro x
  by_cases e:x=s.node
  ·subst e
   rw[has_put_same g.isMap r];exact⟨λ_=>⟨s,.inl rfl,rfl⟩,λ_=>rfl⟩
  ·rw[has_put_other (λh=>e (by simpa using h)),v x]
   constructor
   ·rintro⟨y,a,b⟩
    exact⟨y,.inr ⟨a,by rw[b];exact e⟩,b⟩
   ·rintro⟨y,a|⟨a,_⟩,b⟩
    ·subst a;exact absurd b.symm e
    ·exact⟨y,a,b⟩
 ·rcases B with rfl|⟨a,b⟩
  ·exact⟨q,λzd=>atKey_put_same g.isMap r _ zd,c.1.cs l,c.2⟩
  ·obtain⟨A,G,z⟩:=u y a
   refine⟨A,λzd=>?_,z.1.cs l,z.2⟩;rw[atKey_put_other (λh=>b (by simpa using h))];exact G zd
end
end
section
variable {α : Type} {S : Sh α} {Z : Nat -> Prop} {P : Program} {w : World} {t e : TypeId}
theorem Hr (K:SK P t e S.k){C:Array Oper}{o:Oper}{a:Act}{K':Act->World->Prop}{Q:Exit->Act->World->Prop}{E:Prop}(hg:o.guard=none)(s x:Operand)
  (ho:o.op=.call { callee:=.builtin .append,args:=#[s,x],argTypes:=#[t,t] })
  (B:Nat) (v:Value) (d:List α) (hs:a.eval s=v) (G:GZ S e Z w B v d) (u:Value) (y:α) (hx:a.eval x=u) (hu:SE S (λg=>some g=v.ownBlock\/Z g) w u [y]) (H:d.length+1<=1000000) (q:B<=w.heap.size)
  (h:∀ r w',GZ S e Z w' B r (d++[y])->w.grownBy w' v.ownBlock->(r.ownBlock=v.ownBlock\/r.ownBlock=some w.heap.size)->K' (a.put o.dst r) w'):if Region.wanted o (yielded C a.tmps)=true then Oper.wp P o a w K' Q else E:=by
 have hw:Region.wanted o (yielded C a.tmps)=true:=by simp[Region.wanted,hg]
 rw[if_pos hw];obtain⟨i,z,hi,hz,n,R,N⟩:=K.hi;obtain⟨us,h1,h2,h3⟩:=G;obtain⟨ad,c,rfl,hc,hm,Y,p⟩:=hu;have T:(d.length+1)*i.bytes<=140737488355328:=by
  have:=La H R;omega
 obtain⟨b,J,rfl,_,hn⟩:=p (by simp);obtain⟨l,n1,X,n3,n4⟩:=SE.flat hn;obtain⟨r,w',F,k1,M,_,L⟩:=run_append_own_at (P:=P) w B t o.type e i z S.k i.bytes K.ht hi hz n rfl N S.pos v d.length us h1 ⟨b,J,none⟩ 1 c l n1 (λj y A=>by rw[Addr.add_mid];exact n3 j y A) X (by unfold maxLen;omega) T q;have U:=h r w' ⟨us++l,by rw[Jc];exact k1,λy D=>?_,λj y A=>?_⟩ M L
 ·unfold Oper.wp
  simp[execOp,ho,resolve,invoke,builtin,hs,hx,F,Result.andThen];exact U
 ·rcases JV.1 D with D|D
  ·exact h2 y D
  ·exact X y D
 ·have m:=h1.1
  by_cases I:j<d.length
  ·rw[JE I] at A
   obtain⟨vs,W,V⟩:=h3 j y A;refine⟨vs,λf O=>?_,Sh.moved V M L⟩;have h5:(j+1)*S.k<=d.length*S.k:=Kf _ I;rw[LK,LL] at h5;rw[JE (by rw[m];omega)];exact W f O
  ·rw[JB (by omega)] at A
   obtain⟨vs,W,V⟩:=n4 (j - d.length) y A;refine⟨vs,λf O=>?_,Sh.moved V M L⟩;have h5:d.length*S.k<=j*S.k:=Kf _ (by omega);rw[JB (by rw[m];omega),m,<-W f O,Nat.sub_mul];congr 1
   omega
end
theorem aL.old {S:Sh α}{l:List α}(h:aL S w v l):SZ S (λg=>w.heap.size<=g) w v l:=
 ⟨SE.solidly h λg f=>.inr λa=>by have:=a.lt;omega,λx n c e b d=>by have:=SE.inside h x n c e b;omega⟩
theorem SZ.olds {S:Sh α}{l:List α}(h:SZ S Z w v l):SZ S (λg=>Z g\/w.heap.size<=g) w v l:=
 ⟨h.1.solidly λg b=>b.imp id λb f=>by have:=f.lt;omega,λx n c e d a=>a.elim (λa=>h.2 x n c e d a) λa=>by have:=h.1.inside x n c e d;omega⟩
theorem Il (v:Value)(t:List St)(Z:Nat->Prop)(w:World)(j:SZ bZ Z w v t)(y:t.length<=100000):
  Calls prog 121 #[v] w λe w'=>(∃ i,e=.returned i/\GZ bZ 74 (λg=>Z g\/w.heap.size<g) w' w.heap.size i t)/\Kp w w':=by
 have q:∀ (w:World) (a:Option Addr) (n c n' o:Nat),(binOp .eql 25 (.slice a n c) (.slice none n' o)).run prog w=.ok (.bool a.isNone) w:=λw a n c n' o=>Lib.run_eql_slice_nil w _ _ a n c n' o underlying25
 obtain⟨a,c,rfl,z,x,b,d⟩:=id j.1
 cases a with
 | none=>
  have m:=b rfl
  have l:t=[]:=Ju (by omega)
  subst l m
  go_enter func121,ntmps121
  go_wp2_with fail
  go_ret
  exact⟨⟨_,rfl,GZ.nil _ _ _⟩,Kp.refl _⟩
 | some a=>
  have u:Hid (SE bZ (λg=>some g=(Value.slice (some ⟨w.heap.size,0,none⟩) 0 0).ownBlock\/(Z g\/w.heap.size<g)) (w.alloc (.cells #[] 74)) (.slice (some a) t.length c) t):=
   (SZ.step (j.olds) (am.of_kp ((Kp.refl w).alloc _))).1.mono λg r=>r.elim (λe=>by simp[Value.ownBlock] at e;exact .inr (by omega)) λh=>h.imp id λh=>by omega
  have f:([]:List St).length+t.length<=1000000:=by simp;omega
  clear j d b
  go_enter func121,ntmps121
  go_wp2_with(at_builtin;refine fq (S:=bZ) (Z:=λg=>Z g\/w.heap.size<g) stK rfl _ _ rfl w.heap.size _ [] rfl (GZ.empty _ w) _ t rfl u.out f (by simp) ?_;intro i w' o' s _)
  go_ret
  exact⟨⟨_,rfl,by simpa using o'⟩,Kp.grown (v:=.slice (some ⟨w.heap.size,0,none⟩) 0 0) ((Kp.refl _).alloc _) s (by intro k p;simp[Value.ownBlock] at p;omega)⟩
theorem Im (v:Value)(t:List Se)(Z:Nat->Prop)(w:World)(j:SZ da Z w v t)(y:t.length<=100000):
  Calls prog 122 #[v] w λe w'=>(∃ i,e=.returned i/\GZ da 92 (λg=>Z g\/w.heap.size<g) w' w.heap.size i t)/\Kp w w':=by
 have q:∀ (w:World) (a:Option Addr) (n c n' o:Nat),(binOp .eql 72 (.slice a n c) (.slice none n' o)).run prog w=.ok (.bool a.isNone) w:=λw a n c n' o=>Lib.run_eql_slice_nil w _ _ a n c n' o underlying72
 obtain⟨a,c,rfl,z,x,b,d⟩:=id j.1
 cases a with
 | none=>
  have m:=b rfl
  have l:t=[]:=Ju (by omega)
  subst l m
  go_enter func122,ntmps122
  go_wp2_with fail
  go_ret
  exact⟨⟨_,rfl,GZ.nil _ _ _⟩,Kp.refl _⟩
 | some a=>
  have u:Hid (SE da (λg=>some g=(Value.slice (some ⟨w.heap.size,0,none⟩) 0 0).ownBlock\/(Z g\/w.heap.size<g)) (w.alloc (.cells #[] 92)) (.slice (some a) t.length c) t):=
   (SZ.step (j.olds) (am.of_kp ((Kp.refl w).alloc _))).1.mono λg r=>r.elim (λe=>by simp[Value.ownBlock] at e;exact .inr (by omega)) λh=>h.imp id λh=>by omega
  have f:([]:List Se).length+t.length<=1000000:=by simp;omega
  clear j d b
  go_enter func122,ntmps122
  go_wp2_with(at_builtin;refine fq (S:=da) (Z:=λg=>Z g\/w.heap.size<g) seK rfl _ _ rfl w.heap.size _ [] rfl (GZ.empty _ w) _ t rfl u.out f (by simp) ?_;intro i w' o' s _)
  go_ret
  exact⟨⟨_,rfl,by simpa using o'⟩,Kp.grown (v:=.slice (some ⟨w.heap.size,0,none⟩) 0 0) ((Kp.refl _).alloc _) s (by intro k p;simp[Value.ownBlock] at p;omega)⟩
