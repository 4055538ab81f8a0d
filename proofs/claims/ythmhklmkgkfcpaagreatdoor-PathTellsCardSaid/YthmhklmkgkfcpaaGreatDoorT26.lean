import Derived.Test.YthmhklmkgkfcpaaGreatDoorT10
import Derived.Test.YthmhklmkgkfcpaaGreatDoorT20
import Derived.Test.YthmhklmkgkfcpaaGreatDoorT22
import Derived.Test.YthmhklmkgkfcpaaGreatDoorT25
set_option linter.unusedVariables false
set_option linter.unusedSimpArgs false
set_option maxHeartbeats 8000000
set_option maxRecDepth 100000
namespace Go.Proofs.YthmhklmkgkfcpaaGreatDoor
open Go.RowKit
def abY:List UInt8:=[110,111,100,101]
def ack:List UInt8:=[112,97,116,104]
def aqQ:List UInt8:=[111,110,99,101]
def derB (s label:List UInt8):List UInt8:=labR s label [] 32
theorem aej (s label:List UInt8):(derB s label).length=32:=ace _ _ _
def whoF (t:List Nod)(i k:Nat):List Int:=resV t ((nd k (sq (i / 2 ^ k)):Nat):Int)
def ixS (t:List Nod)(i:Nat):Nat→List Nat
 | 0=>[]
 | m+1=>if (whoF t i m).length=0 then ixS t i m else ixS t i m++[m]
def aac (t:List Nod)(i m:Nat):List Nat:=(ixS t i m).map fun k=>nd (k+1) (i / 2 ^ (k+1))
def whoN (t:List Nod)(i m:Nat):List (List Int):=(ixS t i m).map (whoF t i)
theorem alE (t:List Nod)(i:Nat):∀ m,∀ k∈ixS t i m,k<m
 | 0,k,h=>by cases h
 | m+1,k,h=>by
  unfold ixS at h
  split at h
  ·have:=alE t i m k h;omega
  ·rcases List.mem_append.1 h with h | h
   ·have:=alE t i m k h;omega
   ·simp at h;omega
theorem afx (t:List Nod)(i:Nat):∀ m k,k∈ixS t i m↔k<m∧0<(whoF t i k).length
 | 0,k=>by simp[ixS]
 | m+1,k=>by
  unfold ixS
  split
  ·next h=>
   rw[afx t i m k]
   constructor
   ·exact fun ⟨h1,h2⟩=>⟨by omega,h2⟩
   ·rintro ⟨h1,h2⟩
    refine ⟨?_,h2⟩
    by_cases e:k=m
    ·subst e;omega
    ·omega
  ·next h=>
   rw[List.mem_append,afx t i m k]
   constructor
   ·rintro (⟨h1,h2⟩ | h1)
    ·exact ⟨by omega,h2⟩
    ·simp at h1;subst h1;exact ⟨by omega,by omega⟩
   ·rintro ⟨h1,h2⟩
    by_cases e:k=m
    ·exact .inr (by simp[e])
    ·exact .inl ⟨by omega,h2⟩
theorem aga (t:List Nod)(i:Nat):∀ m,(ixS t i m).Pairwise (·<·)
 | 0=>List.Pairwise.nil
 | m+1=>by
  unfold ixS
  split
  ·exact aga t i m
  ·refine List.pairwise_append.2 ⟨aga t i m,List.pairwise_singleton _ _,fun a ha b hb=>?_⟩
   have:=alE t i m a ha
   simp at hb
   omega
theorem act (t:List Nod)(i m:Nat):(ixS t i m).length≤m:=by
 induction m with
 | zero=>exact Nat.le_refl _
 | succ m ih=>
  unfold ixS
  split
  ·omega
  ·rw[List.length_append,List.length_cons,List.length_nil];omega
def abO (t:List Nod)(i:Int):Int:=if aas t i then 0 else 11
def adL (t:List Nod)(K:Nat)(i:Int):List Nat:=if aas t i then aac t i.toNat K else []
def aaJ:List Sd→Int→List UInt8
 | [],_=>[]
 | s :: l,x=>if s.node=x then s.seed else aaJ l x
def aaY (t:List Nod)(K:Nat)(me:Int)(own:List Sd):Prop:=
 aas t me ∧
 (∀ k,k<own.length→((sdAt own k).node=2*me∨∃ x∈aag K 0 me.toNat,(x:Int)=(sdAt own k).node∧(ats t x).kind=2)∧(sdAt own k).seed.length=32 ∧
  pubB (sdAt own k).seed=(ats t (sdAt own k).node.toNat).pub∧(0<k→(sdAt own (k - 1)).node<(sdAt own k).node)) ∧
 (∀ x∈aag K 0 me.toNat,(ats t x).kind=2→me∉(ats t x).un→(aaJ own (x:Int)).length≠0)∧(aaJ own (2*me)).length≠0
def putS:List Sd→Sd→List Sd
 | [],s=>[s]
 | a :: l,s=>if s.node<a.node then s :: a :: l else a :: putS l s
def secS (s:List UInt8):Nat→List UInt8
 | 0=>s
 | k+1=>derB (secS s k) ack
def afY (s:List UInt8)(n:Nat):List UInt8:=secS s (if n=0 then 1 else n)
theorem acS {s:List UInt8}(h:s.length=32):∀ k,(secS s k).length=32
 | 0=>h
 | k+1=>aej _ _
theorem ads (s:List UInt8)(a:Nat):∀ b,secS s (a+b)=secS (secS s a) b
 | 0=>rfl
 | b+1=>by show derB (secS s (a+b)) ack=_;rw[ads s a b];rfl
def aaZ (s:List UInt8)(k:Nat):List UInt8:=derB (secS s k) abY
def ac9 (secret:List UInt8)(n:Nat):List UInt8:=labR secret aqQ (be 4 n) 32
def abS (t:List Nod)(secret info s:List UInt8):Nat→List Int→List Se
 | _,[]=>[]
 | n,y :: l=>⟨ahs (ats t y.toNat).pub (ac9 secret n),aht (ats t y.toNat).pub (ac9 secret n) info s⟩ :: abS t secret info s (n+1) l
theorem acf (t:List Nod)(secret info s:List UInt8):∀ (l:List Int) (n:Nat),(abS t secret info s n l).length=l.length
 | [],_=>rfl
 | _ :: l,n=>by unfold abS;rw[List.length_cons,List.length_cons,acf t secret info s l]
def makeS (t:List Nod)(secret info:List UInt8):List UInt8→Nat→List (List Int)→List St
 | _,_,[]=>[]
 | s,n,who :: l=>⟨pubR (derB s abY),abS t secret info s n who⟩ :: makeS t secret info (derB s ack) (n+who.length) l
theorem acT (t:List Nod)(secret info:List UInt8):∀ (l:List (List Int)) (s:List UInt8) (n:Nat),(makeS t secret info s n l).length=l.length
 | [],_,_=>rfl
 | _ :: l,s,n=>by unfold makeS;rw[List.length_cons,List.length_cons,acT t secret info l]
theorem agN (t:List Nod)(secret info:List UInt8):∀ (l:List (List Int)) (s:List UInt8) (n k:Nat),k<l.length→(stAt (makeS t secret info s n l) k).pub=pubB (aaZ s k)
 | [],_,_,_,h=>absurd h (Nat.not_lt_zero _)
 | _ :: l,s,n,0,_=>(abE (aej s abY)).2
 | who :: l,s,n,k+1,h=>by
  show (stAt (makeS t secret info (derB s ack) (n+who.length) l) k).pub=_
  rw[agN t secret info l _ _ k (by simpa using h)]
  unfold aaZ
  congr 2
  have:=ads s 1 k
  rw[Nat.add_comm] at this
  exact this.symm
def ownS:List Sd→List UInt8→List Nat→List Sd
 | own,_,[]=>own
 | own,s,x :: l=>ownS (putS own ⟨(x:Int),derB s abY⟩) (derB s ack) l
def setS (p:List St):Nat→List Nat→List Nod→List Nod
 | _,[],t=>t
 | k,x :: l,t=>setS p (k+1) l (t.set x ⟨2,0,(stAt p k).pub,[],[]⟩)
def layP (t:List Nod)(i:Int)(l:List Nat)(p:Pa):List Nod:=layV (setS p.step 0 l (updV t i p.pub)) i
structure Md where
 tree:List Nod
 own:List Sd
 path:Pa
 last:List UInt8
def noMd:Md:=⟨[],[],⟨[],[]⟩,[]⟩
def afZ (t:List Nod)(i:Int)(seed secret:List UInt8):Int:=if seed.length=32∧secret.length=32 then abO t i else 1
def abk (t:List Nod)(K i:Nat)(seed secret info:List UInt8):Pa:=⟨pubB seed,makeS t secret info secret 0 (whoN t i K)⟩
def afy (t:List Nod)(K:Nat)(i:Int)(seed secret info:List UInt8):Md:=
 if afZ t i seed secret=0 then ⟨layP t i (aac t i.toNat K) (abk t K i.toNat seed secret info),ownS [⟨2*i,seed⟩] secret (aac t i.toNat K),abk t K i.toNat seed secret info,afY secret (ixS t i.toNat K).length⟩ else noMd
def aeC (who:List (List Int))(p:Pa):Prop:=
 p.step.length=who.length∧p.pub.length=32∧∀ k,k<who.length→(stAt p.step k).fors.length=(who.getD k []).length∧(stAt p.step k).pub.length=32
def aa7 (own:List Sd)(info:List UInt8):List Int→List Se→List UInt8 × Int
 | [],_=>([],5)
 | y :: l,f=>
  if (aaJ own y).length=0 then aa7 own info l f.tail
  else if (seAt f 0).half.length≠32 then ([],5)
  else if unE (aaJ own y) (seAt f 0).half info (seAt f 0).b≠0 then ([],unE (aaJ own y) (seAt f 0).half info (seAt f 0).b)
  else if (unR (aaJ own y) (seAt f 0).half info (seAt f 0).b).length≠32 then ([],2)
  else (unR (aaJ own y) (seAt f 0).half info (seAt f 0).b,0)
def ad4 (p:List St)(s:List UInt8)(k n:Nat):Prop:=∀ a,k+a<n→pubB (aaZ s a)=(stAt p (k+a)).pub
theorem Se.ext' {a b:Se}(h1:a.half=b.half)(h2:a.b=b.b):a=b:=by cases a;cases b;simp_all
theorem St.ext' {a b:St}(h1:a.pub=b.pub)(h2:a.fors=b.fors):a=b:=by cases a;cases b;simp_all
theorem Pa.ext' {a b:Pa}(h1:a.pub=b.pub)(h2:a.step=b.step):a=b:=by cases a;cases b;simp_all
theorem ajR {own:List Sd}{t:List Nod}{secret info s:List UInt8}(hs:s.length=32):∀ (l:List Int) (n:Nat),
  (∀ y∈l,(aaJ own y).length≠0→(aaJ own y).length=32∧pubB (aaJ own y)=(ats t y.toNat).pub)→(∃ y∈l,(aaJ own y).length≠0) →
  aa7 own info l (abS t secret info s n l)=(s,0)
 | [],_,_,⟨y,hy,_⟩=>by cases hy
 | y :: l,n,h,hex=>by
  unfold aa7
  by_cases hk:(aaJ own y).length=0
  ·rw[if_pos hk]
   have ih:=ajR (own:=own) (t:=t) (secret:=secret) (info:=info) hs l (n+1) (fun z hz=>h z (by simp[hz])) (by
    obtain ⟨z,hz,h2⟩:=hex
    rcases List.mem_cons.1 hz with e | e
    ·subst e;exact absurd hk h2
    ·exact ⟨z,e,h2⟩)
   exact ih
  ·rw[if_neg hk]
   obtain ⟨h1,h2⟩:=h y (by simp) hk
   have hon:(ac9 secret n).length=32:=ace _ _ _
   have hpl:(ats t y.toNat).pub.length=32:=by rw[← h2];exact aa4 _
   obtain ⟨e1,e2,e3⟩:=aiD info s (⟨hon,hpl⟩:okW (ats t y.toNat).pub (ac9 secret n))
   have e0:seAt (abS t secret info s n (y :: l)) 0=⟨pubB (ac9 secret n),adr (ats t y.toNat).pub (pubB (ac9 secret n)) info s⟩:=by
    show (⟨ahs (ats t y.toNat).pub (ac9 secret n),aht (ats t y.toNat).pub (ac9 secret n) info s⟩:Se)=_
    rw[e2,e3]
   have hh:=aa4 (ac9 secret n)
   obtain ⟨u1,u2⟩:=ami (seed:=aaJ own y) (half:=pubB (ac9 secret n)) info s h1 hh
   rw[e0,if_neg (by simpa using hh)]
   rw[h2] at u1 u2
   simp only[u1,u2]
   rw[if_neg (by decide),if_neg (by simpa using hs)]
theorem aaa.over {t ar1:List Nod}{K:Nat}(h:aaa t K)(hl:ar1.length=t.length)(hy:∀ y,ats ar1 y=ats t y∨(y % 2=1∧(ats ar1 y=aao∨∃ p:List UInt8,p.length=32∧ats ar1 y=⟨2,0,p,[],[]⟩))):aaa ar1 K:=by
 have hev:∀ i,ats ar1 (2*i)=ats t (2*i):=fun i=>by
  rcases hy (2*i) with e | ⟨e,_⟩
  ·exact e
  ·omega
 have h1:∀ y,(ats ar1 y).kind=1→ats ar1 y=ats t y:=fun y hk=>by
  rcases hy y with e | ⟨_,e | ⟨p,_,e⟩⟩
  ·exact e
  ·rw[e] at hk;cases hk
  ·rw[e] at hk;cases hk
 refine ⟨h.le,hl.trans h.len,fun y hyl=>?_,fun x y hxy hyl k1 k2=>?_,?_⟩
 ·rcases hy y with e | ⟨ho,e | ⟨p,hp,e⟩⟩
  ·rcases h.okA y with h2 | ⟨a1,a2,a3,a4,a5⟩
   ·exact .inl (e.trans h2)
   ·refine .inr ?_
    rw[e];exact ⟨a1,a2,a3,a4,fun e2=>⟨(a5 e2).1,(a5 e2).2.1,fun i hi=>by
     have:=(a5 e2).2.2 i hi;rw[hev];exact this⟩⟩
  ·exact .inl e
  ·refine .inr ?_
   rw[e];refine ⟨?_,⟨Int.le_refl 0,show (0:Int)≤65535 by decide,hp⟩,.inl rfl,fun e2=>rfl,fun _=>⟨rfl,List.Pairwise.nil,fun i hi=>by cases hi⟩⟩;show (2:Int)=1+(y:Int) % 2
   omega
 ·have e1:=h1 x k1
  have e2:=h1 y k2;rw[e1] at k1 ⊢;rw[e2] at k2 ⊢;exact h.one x y hxy (hl▸hyl) k1 k2
 ·obtain ⟨x,hx,k⟩:=h.used
  refine ⟨x,hl▸hx,?_⟩;have he:x % 2=0:=by
   rcases h.okA x with e | ⟨e,_⟩
   ·rw[e] at k;cases k
   ·omega
  rcases hy x with e | ⟨ho,_⟩
  ·rw[e];exact k
  ·omega
theorem abo.over {t ar1:List Nod}{K:Nat}(h:abo t K)(hl:ar1.length=t.length)(hy:∀ y,ats ar1 y=ats t y∨(y % 2=1∧(ats ar1 y=aao∨∃ p:List UInt8,p.length=32∧ats ar1 y=⟨2,0,p,[],[]⟩))):abo ar1 K:=by
 refine ⟨h.le,hl.trans h.len,fun y=>?_,fun y hk=>?_⟩
 ·rcases hy y with e | ⟨_,e | ⟨p,hp,e⟩⟩
  ·rw[e];exact h.node y
  ·rw[e];exact adN.blank
  ·rw[e]
   exact ⟨.inr (.inr rfl),⟨Int.le_refl 0,show (0:Int)≤65535 by decide⟩,by simp only[hp];decide,Nat.zero_le _,Nat.zero_le _,fun i hi=>by cases hi⟩
 ·rcases hy y with e | ⟨ho,_⟩
  ·rw[e] at hk;exact h.par y hk
  ·exact ho
theorem agb (p:List St):∀ (l:List Nat) (k:Nat) (t:List Nod),(setS p k l t).length=t.length
 | [],_,_=>rfl
 | x :: l,k,t=>(agb p l (k+1) _).trans (List.length_set ..)
theorem agc (p:List St):∀ (l:List Nat) (k:Nat) (t:List Nod) (y:Nat),(∀ x∈l,x<t.length)→y∉l→ats (setS p k l t) y=ats t y
 | [],_,_,_,_,_=>rfl
 | x :: l,k,t,y,h,hy=>by
  show ats (setS p (k+1) l _) y=_
  rw[agc p l (k+1) _ y (fun z hz=>by rw[List.length_set];exact h z (by simp[hz])) (fun e=>hy (by simp[e])),abu _ _ _ _ (h x (by simp)),if_neg fun e=>hy (by simp[e])]
theorem akQ (p:List St):∀ (l:List Nat) (k:Nat) (t:List Nod),l.Nodup→(∀ x∈l,x<t.length)→∀ a,a<l.length→ats (setS p k l t) (l.getD a 0)=⟨2,0,(stAt p (k+a)).pub,[],[]⟩
 | [],_,_,_,_,a,h=>absurd h (Nat.not_lt_zero _)
 | x :: l,k,t,hn,h,0,_=>by
  show ats (setS p (k+1) l _) x=_
  rw[agc p l (k+1) _ x (fun z hz=>by rw[List.length_set];exact h z (by simp[hz])) (List.nodup_cons.1 hn).1,abu _ _ _ _ (h x (by simp)),if_pos rfl]
  rfl
 | x :: l,k,t,hn,h,a+1,ha=>by
  show ats (setS p (k+1) l _) (l.getD a 0)=_
  rw[akQ p l (k+1) _ (List.nodup_cons.1 hn).2 (fun z hz=>by rw[List.length_set];exact h z (by simp[hz])) a (by simpa using ha),show k+1+a=k+(a+1) by omega]
theorem aoc {t:List Nod}{i K x:Nat}:x∈aac t i K↔∃ k,k<K∧0<(whoF t i k).length∧x=nd (k+1) (i / 2 ^ (k+1)):=by
 unfold aac;rw[List.mem_map];constructor
 ·rintro ⟨k,hk,rfl⟩
  obtain ⟨h1,h2⟩:=(afx t i K k).1 hk;exact ⟨k,h1,h2,rfl⟩
 ·rintro ⟨k,h1,h2,rfl⟩
  exact ⟨k,(afx t i K k).2 ⟨h1,h2⟩,rfl⟩
theorem aaU {t:List Nod}{i K x:Nat}(h:x∈aac t i K):x∈aag K 0 i:=by
 obtain ⟨k,h1,_,rfl⟩:=aoc.1 h;exact adh.2 ⟨k+1,by omega,by omega,rfl⟩
theorem ab0 (t:List Nod)(i K:Nat):(aac t i K).Nodup:=by
 unfold aac;refine List.pairwise_map.2 ((aga t i K).imp fun {a b} h e=>?_);have:=(aeN e).1;omega
theorem aaE (t:List Nod)(i K:Nat):(aac t i K).length=(ixS t i K).length∧(whoN t i K).length=(ixS t i K).length:=by
 unfold aac whoN;rw[List.length_map,List.length_map];exact ⟨rfl,rfl⟩
theorem aiL:∀ (own:List Sd) (y:Int),(aaJ own y).length≠0→∃ k,k<own.length∧(sdAt own k).node=y∧(sdAt own k).seed=aaJ own y
 | [],y,h=>absurd rfl h
 | s :: l,y,h=>by
  unfold aaJ at h ⊢
  by_cases e:s.node=y
  ·rw[if_pos e]
   exact ⟨0,by simp,e,rfl⟩
  ·rw[if_neg e] at h ⊢
   obtain ⟨k,h1,h2,h3⟩:=aiL l y h
   exact ⟨k+1,by simp;omega,h2,h3⟩
theorem aid {t:List Nod}{K me:Nat}(hr:aaa t K)(hk:(ats t (2*me)).kind=1):∀ j,j≤K →
  ((2*me:Nat):Int)∈resF t j (me / 2 ^ j)∨∃ a,1≤a∧a≤j∧((nd a (me / 2 ^ a):Nat):Int)∈resF t j (me / 2 ^ j)∧(ats t (nd a (me / 2 ^ a))).kind=2∧(me:Int)∉(ats t (nd a (me / 2 ^ a))).un
 | 0,_=>by
  left
  have e:me / 2 ^ 0=me:=by simp
  unfold resF
  rw[e,abt,if_neg (by rw[hk];decide)]
  exact List.mem_cons_self ..
 | j+1,hj=>by
  have hdiv:me / 2 ^ (j+1)=me / 2 ^ j / 2:=by rw[Nat.pow_succ,Nat.div_div_eq_div_mul]
  by_cases h0:(ats t (nd (j+1) (me / 2 ^ (j+1)))).kind=0
  ·have hc:2*(me / 2 ^ (j+1))=me / 2 ^ j∨2*(me / 2 ^ (j+1))+1=me / 2 ^ j:=by omega
   have hsub:∀ y,y∈resF t j (me / 2 ^ j)→y∈resF t (j+1) (me / 2 ^ (j+1)):=fun y hy=>by
    unfold resF
    rw[if_pos h0,List.mem_append]
    rcases hc with e | e
    ·exact .inl (by rw[e];exact hy)
    ·exact .inr (by rw[e];exact hy)
   rcases aid hr hk j (by omega) with h | ⟨a,h1,h2,h3,h4⟩
   ·exact .inl (hsub _ h)
   ·exact .inr ⟨a,h1,by omega,hsub _ h3,h4⟩
  ·have hodd:=afE j (me / 2 ^ (j+1))
   have h2:(ats t (nd (j+1) (me / 2 ^ (j+1)))).kind=2:=by
    rcases hr.odd hodd with e | ⟨e,_⟩
    ·rw[e] at h0;exact absurd rfl h0
    ·exact e
   by_cases hu:(me:Int)∈(ats t (nd (j+1) (me / 2 ^ (j+1)))).un
   ·left
    unfold resF
    rw[if_neg h0]
    refine List.mem_cons_of_mem _ (List.mem_map.2 ⟨(me:Int),hu,by omega⟩)
   ·right
    refine ⟨j+1,by omega,Nat.le_refl _,?_,h2,hu⟩
    unfold resF
    rw[if_neg h0]
    exact List.mem_cons_self ..
theorem ada {K i me:Nat}(hK:K≤10)(hi:i<2 ^ K)(hm:me<2 ^ K)(hne:i≠me):
  1≤meet i me∧meet i me≤K∧i / 2 ^ (meet i me)=me / 2 ^ (meet i me)∧sq (i / 2 ^ (meet i me - 1))=me / 2 ^ (meet i me - 1):=by
 obtain ⟨h1,h2,h3⟩:=ajm hK hi hm;obtain ⟨m,hM⟩:∃ m,meet i me=m:=⟨_,rfl⟩;rw[hM] at h1 h2 h3 ⊢;have hm0:m≠0:=fun e=>by subst e;simp at h2;exact hne h2
 obtain ⟨n,rfl⟩:∃ n,m=n+1:=⟨m - 1,by omega⟩;refine ⟨by omega,h1,h2,?_⟩;rw[Nat.add_sub_cancel];have h4:=h3 n (by omega);rw[Nat.pow_succ,← Nat.div_div_eq_div_mul,← Nat.div_div_eq_div_mul] at h2;generalize i / 2 ^ n=a at *;generalize me / 2 ^ n=b at *;clear h1 h3 hi hm;unfold sq;split <;> omega
theorem aiM {t:List Nod}{K i me:Nat}{own:List Sd}(hr:aaa t K)(hi:i<2 ^ K)(hk:(ats t (2*me)).kind=1)(hm:me<2 ^ K)(hne:i≠me)(hs:aaY t K (me:Int) own):
  ∃ y∈whoF t i (meet i me - 1),(aaJ own y).length≠0:=by
 obtain ⟨m1,m2,m3,m4⟩:=ada hr.le hi hm hne;obtain ⟨n,hn⟩:∃ n,meet i me - 1=n:=⟨_,rfl⟩;rw[hn] at m4 ⊢;have hq:me / 2 ^ n<2 ^ (K - n):=by
  have:=afh (K:=K) (j:=0) (q:=me) (i:=n) (by simpa using hm) (by omega);simpa using this
 have ew:whoF t i n=resF t n (me / 2 ^ n):=by
  unfold whoF;rw[m4];exact als hr (by omega) hq
 obtain ⟨_,_,s3,s4⟩:=hs;rw[Int.toNat_natCast] at s3;rw[ew];rcases aid hr hk n (by omega) with h | ⟨a,h1,h2,h3,h4,h5⟩
 ·refine ⟨_,h,?_⟩
  have e:((2*me:Nat):Int)=2*(me:Int):=by omega
  rw[e];exact s4
 ·exact ⟨_,h3,s3 _ (adh.2 ⟨a,h1,by omega,rfl⟩) h4 h5⟩
theorem aek (t:List Nod)(secret info:List UInt8):∀ (l:List (List Int)) (s:List UInt8) (n k:Nat),k<l.length→∃ n',(stAt (makeS t secret info s n l) k).fors=abS t secret info (secS s k) n' (l.getD k [])
 | [],_,_,_,h=>absurd h (Nat.not_lt_zero _)
 | who :: l,s,n,0,_=>⟨n,rfl⟩
 | who :: l,s,n,k+1,h=>by
  obtain ⟨n',e⟩:=aek t secret info l (derB s ack) (n+who.length) k (by simpa using h)
  refine ⟨n',?_⟩
  show (stAt (makeS t secret info (derB s ack) (n+who.length) l) k).fors=_
  rw[e]
  have:=ads s 1 k
  rw[Nat.add_comm] at this
  show abS t secret info (secS (derB s ack) k) n' (l.getD k [])=abS t secret info (secS s (k+1)) n' (l.getD k [])
  rw[this]
  rfl
theorem adb (t:List Nod)(K i:Nat)(seed secret info:List UInt8):aeC (whoN t i K) (abk t K i seed secret info):=by
 refine ⟨acT _ _ _ _ _ _,aa4 _,fun k hk=>⟨?_,?_⟩⟩
 ·obtain ⟨n',e⟩:=aek t secret info (whoN t i K) secret 0 k hk
  show (stAt (makeS t secret info secret 0 (whoN t i K)) k).fors.length=_
  rw[e,acf]
 ·show (stAt (makeS t secret info secret 0 (whoN t i K)) k).pub.length=32
  rw[agN t secret info _ _ _ k hk];exact aa4 _
def kM (t:List Nod)(i me:Nat):Nat:=(ixS t i (meet i me - 1)).length
theorem agP (t:List Nod)(i n:Nat)(h:0<(whoF t i n).length):∀ m,n<m→∃ rest,ixS t i m=ixS t i n++n :: rest
 | 0,hm=>absurd hm (Nat.not_lt_zero _)
 | m+1,hm=>by
  by_cases e:n=m
  ·subst e
   refine ⟨[],?_⟩
   rw[show ixS t i (n+1)=if (whoF t i n).length=0 then ixS t i n else ixS t i n++[n] from rfl,if_neg (by omega)]
  ·obtain ⟨rest,e2⟩:=agP t i n h m (by omega)
   show ∃ rest,(if (whoF t i m).length=0 then ixS t i m else ixS t i m++[m])=_
   split
   ·exact ⟨rest,e2⟩
   ·exact ⟨rest++[m],by rw[e2,List.append_assoc];rfl⟩
theorem aqV {t:List Nod}{K i me:Nat}(hm:1≤meet i me∧meet i me≤K)(h:0<(whoF t i (meet i me - 1)).length):
  kM t i me<(ixS t i K).length∧(ixS t i K).getD (kM t i me) 0=meet i me - 1∧(whoN t i K).getD (kM t i me) []=whoF t i (meet i me - 1)∧(aac t i K).getD (kM t i me) 0=nd (meet i me) (i / 2 ^ (meet i me)):=by
 obtain ⟨rest,e⟩:=agP t i _ h K (by omega);unfold kM;have hl:(ixS t i K).length=(ixS t i (meet i me - 1)).length+(rest.length+1):=by rw[e,List.length_append,List.length_cons]
 have hg:(ixS t i K)[(ixS t i (meet i me - 1)).length]?=some (meet i me - 1):=by
  rw[e,List.getElem?_append_right (Nat.le_refl _),Nat.sub_self];rfl
 refine ⟨by omega,?_,?_,?_⟩
 ·rw[List.getD_eq_getElem?_getD,hg];rfl
 ·unfold whoN
  rw[List.getD_eq_getElem?_getD,List.getElem?_map,hg];rfl
 ·unfold aac
  rw[List.getD_eq_getElem?_getD,List.getElem?_map,hg];show nd (meet i me - 1+1) (i / 2 ^ (meet i me - 1+1))=_
  rw[show meet i me - 1+1=meet i me by omega]
def ad5 (t:List Nod)(K i me:Nat)(own:List Sd)(info:List UInt8)(p:Pa):List UInt8 × Int:=aa7 own info ((whoN t i K).getD (kM t i me) []) (stAt p.step (kM t i me)).fors
open Classical in
noncomputable def adv (t:List Nod) (K:Nat) (i me:Int) (own:List Sd) (info:List UInt8) (p:Pa):Int:=
 if ¬aas t i then 11 else if i=me then 1 else if ¬aeC (whoN t i.toNat K) p then 2
 else if (ad5 t K i.toNat me.toNat own info p).2≠0 then (ad5 t K i.toNat me.toNat own info p).2
 else if ad4 p.step (ad5 t K i.toNat me.toNat own info p).1 (kM t i.toNat me.toNat) (ixS t i.toNat K).length then 0 else 5
open Classical in
noncomputable def af0 (K i:Nat) (own:List Sd):List Sd:=own.filter fun s=>decide (¬∃ x∈aag K 0 i,((x:Nat):Int)=s.node)
noncomputable def adw (t:List Nod) (K:Nat) (i me:Int) (own:List Sd) (info:List UInt8) (p:Pa):Md:=
 if adv t K i me own info p=0 then
  ⟨layP t i (aac t i.toNat K) p,ownS (af0 K i.toNat own) (ad5 t K i.toNat me.toNat own info p).1 ((aac t i.toNat K).drop (kM t i.toNat me.toNat)),p,secS (ad5 t K i.toNat me.toNat own info p).1 ((ixS t i.toNat K).length - kM t i.toNat me.toNat)⟩
 else noMd
theorem aod {t:List Nod}{K i me:Nat}{own:List Sd}{seed secret:List UInt8}(info:List UInt8)(hr:aaa t K)(hki:(ats t (2*i)).kind=1)(hne:i≠me)(hs:aaY t K (me:Int) own)(h1:seed.length=32)(h2:secret.length=32):
  adv t K (i:Int) (me:Int) own info (abk t K i seed secret info)=0∧ad5 t K i me own info (abk t K i seed secret info)=(secS secret (kM t i me),0) ∧
  (adw t K (i:Int) (me:Int) own info (abk t K i seed secret info)).tree=(afy t K (i:Int) seed secret info).tree ∧
  (adw t K (i:Int) (me:Int) own info (abk t K i seed secret info)).last=(afy t K (i:Int) seed secret info).last ∧
  (adw t K (i:Int) (me:Int) own info (abk t K i seed secret info)).path=(afy t K (i:Int) seed secret info).path:=by
 have hkm:=(hr.there_iff me).1 hs.1;have hlen:=hr.len2;have hi:i<2 ^ K:=by have:=aaa.lt_of (t:=t) (x:=2*i) (by rw[hki];decide);omega
 have hm:me<2 ^ K:=by have:=aaa.lt_of (t:=t) (x:=2*me) (by rw[hkm];decide);omega
 obtain ⟨m1,m2,_,_⟩:=ada hr.le hi hm hne;obtain ⟨y,hy,hyk⟩:=aiM hr hi hkm hm hne hs;obtain ⟨k1,k2,k3,k4⟩:=aqV (K:=K) ⟨m1,m2⟩ (List.length_pos_of_mem hy);have hwl:=(aaE t i K).2;have hR:ad5 t K i me own info (abk t K i seed secret info)=(secS secret (kM t i me),0):=by
  unfold ad5;obtain ⟨n',e⟩:=aek t secret info (whoN t i K) secret 0 (kM t i me) (by omega);show aa7 own info _ (stAt (makeS t secret info secret 0 (whoN t i K)) (kM t i me)).fors=_
  rw[e,k3];refine ajR (acS h2 _) _ _ (fun z hz hzk=>?_) ⟨y,hy,hyk⟩;obtain ⟨a,a1,a2,a3⟩:=aiL own z hzk;obtain ⟨_,b2,b3,_⟩:=hs.2.1 a a1;rw[a3] at b2 b3;rw[a2] at b3;exact ⟨b2,b3⟩
 have hE:adv t K (i:Int) (me:Int) own info (abk t K i seed secret info)=0:=by
  unfold adv;rw[if_neg (by rw[Classical.not_not];exact (hr.there_iff i).2 hki),if_neg (by omega),Int.toNat_natCast,Int.toNat_natCast,if_neg (by rw[Classical.not_not];exact adb t K i seed secret info),hR,if_neg (by simp),if_pos];intro a ha;show _=(stAt (makeS t secret info secret 0 (whoN t i K)) (kM t i me+a)).pub
  rw[agN t secret info _ _ _ _ (by omega)];unfold aaZ;rw[ads]
 have hM:afZ t (i:Int) seed secret=0:=by
  unfold afZ abO;rw[if_pos ⟨h1,h2⟩,if_pos ((hr.there_iff i).2 hki)]
 have eT:adw t K (i:Int) (me:Int) own info (abk t K i seed secret info)=⟨layP t (i:Int) (aac t i K) (abk t K i seed secret info),ownS (af0 K i own) (secS secret (kM t i me)) ((aac t i K).drop (kM t i me)),abk t K i seed secret info,secS (secS secret (kM t i me)) ((ixS t i K).length - kM t i me)⟩:=by
  unfold adw;rw[if_pos hE,Int.toNat_natCast,Int.toNat_natCast,hR]
 have eM:afy t K (i:Int) seed secret info=⟨layP t (i:Int) (aac t i K) (abk t K i seed secret info),ownS [⟨2*(i:Int),seed⟩] secret (aac t i K),abk t K i seed secret info,afY secret (ixS t i K).length⟩:=by
  unfold afy;rw[if_pos hM,Int.toNat_natCast]
 refine ⟨hE,hR,?_,?_,?_⟩
 ·rw[eT,eM]
 ·rw[eT,eM]
  show secS (secS secret (kM t i me)) _=afY secret _
  unfold afY;rw[if_neg (by omega),← ads];congr 1
  omega
 ·rw[eT,eM]
end Go.Proofs.YthmhklmkgkfcpaaGreatDoor
