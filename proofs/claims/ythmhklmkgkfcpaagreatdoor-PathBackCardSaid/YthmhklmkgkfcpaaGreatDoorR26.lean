import Derived.Test.YthmhklmkgkfcpaaGreatDoorR17
import Derived.Test.YthmhklmkgkfcpaaGreatDoorR21
import Derived.Test.YthmhklmkgkfcpaaGreatDoorR25
set_option linter.unusedVariables false
set_option linter.unusedSimpArgs false
set_option maxHeartbeats 8000000
set_option maxRecDepth 100000
namespace Go.Proofs.YthmhklmkgkfcpaaGreatDoor
open Go.RowKit
def ab0:List UInt8:=[110,111,100,101]
def acp:List UInt8:=[112,97,116,104]
def aqX:List UInt8:=[111,110,99,101]
def derB (s label:List UInt8):List UInt8:=labR s label [] 32
theorem acX (s label:List UInt8):(derB s label).length=32:=ach _ _ _
def whoF (t:List Nod)(i k:Nat):List Int:=resV t ((nd k (sq (i / 2 ^ k)):Nat):Int)
def ixS (t:List Nod)(i:Nat):Nat→List Nat
 | 0=>[]
 | m+1=>if (whoF t i m).length=0 then ixS t i m else ixS t i m++[m]
def aaa (t:List Nod)(i m:Nat):List Nat:=(ixS t i m).map fun k=>nd (k+1) (i / 2 ^ (k+1))
def whoN (t:List Nod)(i m:Nat):List (List Int):=(ixS t i m).map (whoF t i)
theorem aib (t:List Nod)(i:Nat):∀ m,∀ k∈ixS t i m,k<m
 | 0,k,h=>by cases h
 | m+1,k,h=>by
  unfold ixS at h
  split at h
  ·have:=aib t i m k h;omega
  ·rcases List.mem_append.1 h with h | h
   ·have:=aib t i m k h;omega
   ·simp at h;omega
theorem aew (t:List Nod)(i:Nat):∀ m k,k∈ixS t i m↔k<m∧0<(whoF t i k).length
 | 0,k=>by simp[ixS]
 | m+1,k=>by
  unfold ixS
  split
  ·next h=>
   rw[aew t i m k]
   constructor
   ·exact fun ⟨h1,h2⟩=>⟨by omega,h2⟩
   ·rintro ⟨h1,h2⟩
    refine ⟨?_,h2⟩
    by_cases e:k=m
    ·subst e;omega
    ·omega
  ·next h=>
   rw[List.mem_append,aew t i m k]
   constructor
   ·rintro (⟨h1,h2⟩ | h1)
    ·exact ⟨by omega,h2⟩
    ·simp at h1;subst h1;exact ⟨by omega,by omega⟩
   ·rintro ⟨h1,h2⟩
    by_cases e:k=m
    ·exact .inr (by simp[e])
    ·exact .inl ⟨by omega,h2⟩
theorem aeY (t:List Nod)(i:Nat):∀ m,(ixS t i m).Pairwise (·<·)
 | 0=>List.Pairwise.nil
 | m+1=>by
  unfold ixS
  split
  ·exact aeY t i m
  ·refine List.pairwise_append.2 ⟨aeY t i m,List.pairwise_singleton _ _,fun a ha b hb=>?_⟩
   have:=aib t i m a ha
   simp at hb
   omega
theorem ab3 (t:List Nod)(i m:Nat):(ixS t i m).length≤m:=by
 induction m with
 | zero=>exact Nat.le_refl _
 | succ m ih=>
  unfold ixS
  split
  ·omega
  ·rw[List.length_append,List.length_cons,List.length_nil];omega
def acY (t:List Nod)(i:Int):Int:=if aar t i then 0 else 11
def agT (t:List Nod)(K:Nat)(i:Int):List Nat:=if aar t i then aaa t i.toNat K else []
def aaM:List Sd→Int→List UInt8
 | [],_=>[]
 | s :: l,x=>if s.node=x then s.seed else aaM l x
def aaI (t:List Nod)(K:Nat)(me:Int)(own:List Sd):Prop:=
 aar t me ∧
 (∀ k,k<own.length→((sdAt own k).node=2*me∨∃ x∈aag K 0 me.toNat,(x:Int)=(sdAt own k).node∧(ats t x).kind=2)∧(sdAt own k).seed.length=32 ∧
  pubB (sdAt own k).seed=(ats t (sdAt own k).node.toNat).pub∧(0<k→(sdAt own (k - 1)).node<(sdAt own k).node)) ∧
 (∀ x∈aag K 0 me.toNat,(ats t x).kind=2→me∉(ats t x).un→(aaM own (x:Int)).length≠0)∧(aaM own (2*me)).length≠0
def putS:List Sd→Sd→List Sd
 | [],s=>[s]
 | a :: l,s=>if s.node<a.node then s :: a :: l else a :: putS l s
def secS (s:List UInt8):Nat→List UInt8
 | 0=>s
 | k+1=>derB (secS s k) acp
def afy (s:List UInt8)(n:Nat):List UInt8:=secS s (if n=0 then 1 else n)
theorem acu {s:List UInt8}(h:s.length=32):∀ k,(secS s k).length=32
 | 0=>h
 | k+1=>acX _ _
theorem acZ (s:List UInt8)(a:Nat):∀ b,secS s (a+b)=secS (secS s a) b
 | 0=>rfl
 | b+1=>by show derB (secS s (a+b)) acp=_;rw[acZ s a b];rfl
def aaU (s:List UInt8)(k:Nat):List UInt8:=derB (secS s k) ab0
def adg (secret:List UInt8)(n:Nat):List UInt8:=labR secret aqX (be 4 n) 32
def abU (t:List Nod)(secret info s:List UInt8):Nat→List Int→List Se
 | _,[]=>[]
 | n,y :: l=>⟨ahw (ats t y.toNat).pub (adg secret n),ahy (ats t y.toNat).pub (adg secret n) info s⟩ :: abU t secret info s (n+1) l
theorem aci (t:List Nod)(secret info s:List UInt8):∀ (l:List Int) (n:Nat),(abU t secret info s n l).length=l.length
 | [],_=>rfl
 | _ :: l,n=>by unfold abU;rw[List.length_cons,List.length_cons,aci t secret info s l]
def makeS (t:List Nod)(secret info:List UInt8):List UInt8→Nat→List (List Int)→List St
 | _,_,[]=>[]
 | s,n,who :: l=>⟨pubR (derB s ab0),abU t secret info s n who⟩ :: makeS t secret info (derB s acp) (n+who.length) l
theorem ac0 (t:List Nod)(secret info:List UInt8):∀ (l:List (List Int)) (s:List UInt8) (n:Nat),(makeS t secret info s n l).length=l.length
 | [],_,_=>rfl
 | _ :: l,s,n=>by unfold makeS;rw[List.length_cons,List.length_cons,ac0 t secret info l]
theorem aeZ (t:List Nod)(secret info:List UInt8):∀ (l:List (List Int)) (s:List UInt8) (n k:Nat),k<l.length→(stAt (makeS t secret info s n l) k).pub=pubB (aaU s k)
 | [],_,_,_,h=>absurd h (Nat.not_lt_zero _)
 | _ :: l,s,n,0,_=>(abI (acX s ab0)).2
 | who :: l,s,n,k+1,h=>by
  show (stAt (makeS t secret info (derB s acp) (n+who.length) l) k).pub=_
  rw[aeZ t secret info l _ _ k (by simpa using h)]
  unfold aaU
  congr 2
  have:=acZ s 1 k
  rw[Nat.add_comm] at this
  exact this.symm
def ownS:List Sd→List UInt8→List Nat→List Sd
 | own,_,[]=>own
 | own,s,x :: l=>ownS (putS own ⟨(x:Int),derB s ab0⟩) (derB s acp) l
def setS (p:List St):Nat→List Nat→List Nod→List Nod
 | _,[],t=>t
 | k,x :: l,t=>setS p (k+1) l (t.set x ⟨2,0,(stAt p k).pub,[],[]⟩)
def layP (t:List Nod)(i:Int)(l:List Nat)(p:Pa):List Nod:=layV (setS p.step 0 l (updV t i p.pub)) i
structure Md where
 tree:List Nod
 own:List Sd
 path:Pa
 last:List UInt8
def noMd:Md:=⟨[],[],⟨[],[]⟩,[]⟩
def aex (t:List Nod)(i:Int)(seed secret:List UInt8):Int:=if seed.length=32∧secret.length=32 then acY t i else 1
def aaO (t:List Nod)(K i:Nat)(seed secret info:List UInt8):Pa:=⟨pubB seed,makeS t secret info secret 0 (whoN t i K)⟩
def abQ (t:List Nod)(K:Nat)(i:Int)(seed secret info:List UInt8):Md:=
 if aex t i seed secret=0 then ⟨layP t i (aaa t i.toNat K) (aaO t K i.toNat seed secret info),ownS [⟨2*i,seed⟩] secret (aaa t i.toNat K),aaO t K i.toNat seed secret info,afy secret (ixS t i.toNat K).length⟩ else noMd
def aey (who:List (List Int))(p:Pa):Prop:=
 p.step.length=who.length∧p.pub.length=32∧∀ k,k<who.length→(stAt p.step k).fors.length=(who.getD k []).length∧(stAt p.step k).pub.length=32
def abb (own:List Sd)(info:List UInt8):List Int→List Se→List UInt8 × Int
 | [],_=>([],5)
 | y :: l,f=>
  if (aaM own y).length=0 then abb own info l f.tail
  else if (seAt f 0).half.length≠32 then ([],5)
  else if unE (aaM own y) (seAt f 0).half info (seAt f 0).b≠0 then ([],unE (aaM own y) (seAt f 0).half info (seAt f 0).b)
  else if (unR (aaM own y) (seAt f 0).half info (seAt f 0).b).length≠32 then ([],2)
  else (unR (aaM own y) (seAt f 0).half info (seAt f 0).b,0)
def ad1 (p:List St)(s:List UInt8)(k n:Nat):Prop:=∀ a,k+a<n→pubB (aaU s a)=(stAt p (k+a)).pub
theorem Se.ext' {a b:Se}(h1:a.half=b.half)(h2:a.b=b.b):a=b:=by cases a;cases b;simp_all
theorem St.ext' {a b:St}(h1:a.pub=b.pub)(h2:a.fors=b.fors):a=b:=by cases a;cases b;simp_all
theorem Pa.ext' {a b:Pa}(h1:a.pub=b.pub)(h2:a.step=b.step):a=b:=by cases a;cases b;simp_all
theorem ajU {own:List Sd}{t:List Nod}{secret info s:List UInt8}(hs:s.length=32):∀ (l:List Int) (n:Nat),
  (∀ y∈l,(aaM own y).length≠0→(aaM own y).length=32∧pubB (aaM own y)=(ats t y.toNat).pub)→(∃ y∈l,(aaM own y).length≠0) →
  abb own info l (abU t secret info s n l)=(s,0)
 | [],_,_,⟨y,hy,_⟩=>by cases hy
 | y :: l,n,h,hex=>by
  unfold abb
  by_cases hk:(aaM own y).length=0
  ·rw[if_pos hk]
   have ih:=ajU (own:=own) (t:=t) (secret:=secret) (info:=info) hs l (n+1) (fun z hz=>h z (by simp[hz])) (by
    obtain ⟨z,hz,h2⟩:=hex
    rcases List.mem_cons.1 hz with e | e
    ·subst e;exact absurd hk h2
    ·exact ⟨z,e,h2⟩)
   exact ih
  ·rw[if_neg hk]
   obtain ⟨h1,h2⟩:=h y (by simp) hk
   have hon:(adg secret n).length=32:=ach _ _ _
   have hpl:(ats t y.toNat).pub.length=32:=by rw[← h2];exact aaG _
   obtain ⟨e1,e2,e3⟩:=aiG info s (⟨hon,hpl⟩:okW (ats t y.toNat).pub (adg secret n))
   have e0:seAt (abU t secret info s n (y :: l)) 0=⟨pubB (adg secret n),adv (ats t y.toNat).pub (pubB (adg secret n)) info s⟩:=by
    show (⟨ahw (ats t y.toNat).pub (adg secret n),ahy (ats t y.toNat).pub (adg secret n) info s⟩:Se)=_
    rw[e2,e3]
   have hh:=aaG (adg secret n)
   obtain ⟨u1,u2⟩:=aml (seed:=aaM own y) (half:=pubB (adg secret n)) info s h1 hh
   rw[e0,if_neg (by simpa using hh)]
   rw[h2] at u1 u2
   simp only[u1,u2]
   rw[if_neg (by decide),if_neg (by simpa using hs)]
def eqH (a b:Nod):Prop:=a.kind=b.kind∧a.name=b.name∧a.pub=b.pub∧a.un=b.un
theorem eqH.refl (a:Nod):eqH a a:=⟨rfl,rfl,rfl,rfl⟩
theorem eqH.trans {a b c:Nod}(h:eqH a b)(k:eqH b c):eqH a c:=⟨h.1.trans k.1,h.2.1.trans k.2.1,h.2.2.1.trans k.2.2.1,h.2.2.2.trans k.2.2.2⟩
theorem apy (n:Nod)(h:List UInt8):eqH (ac6 n h) n:=⟨rfl,rfl,rfl,rfl⟩
theorem aoj {t:List Nod}{x:Nat}(hx:x<t.length)(h:List UInt8)(y:Nat):eqH (ats (t.set x (ac6 (ats t x) h)) y) (ats t y):=by
 rw[abl _ _ _ _ hx];split
 ·next e=>subst e;exact apy _ _
 ·exact eqH.refl _
theorem apz {i:Nat}{s:List Nod × List UInt8}{x:Nat}(hx:x<s.1.length)(y:Nat):eqH (ats (layS i s x).1 y) (ats s.1 y):=by
 unfold layS;split
 ·exact aoj hx _ y
 ·exact eqH.refl _
theorem alI {i:Nat}:∀ (l:List Nat) (s:List Nod × List UInt8),(∀ x∈l,x<s.1.length)→∀ y,eqH (ats (l.foldl (layS i) s).1 y) (ats s.1 y)
 | [],s,_,y=>eqH.refl _
 | x :: l,s,h,y=>(alI l (layS i s x) (fun z hz=>by rw[alH];exact h z (by simp[hz])) y).trans (apz (h x (by simp)) y)
theorem apA {t:List Nod}{K:Nat}(hr:aab t K)(hT:aa3 t K)(i:Int)(y:Nat):eqH (ats (layV t i) y) (ats t y):=by
 by_cases h:aar t i
 ·obtain ⟨k,rfl⟩:=Int.eq_ofNat_of_zero_le h.1
  have h2:=h.2.1;rw[hr.lv] at h2;have hl:=hr.len2;have hk:k<2 ^ K:=by omega
  obtain ⟨_,q2,_⟩:=agX hr.le hr.len hk;have hm:∀ x∈(aav t k).reverse,x<t.length:=fun x hx=>by
   obtain ⟨a,ha,rfl⟩:=List.getElem_of_mem (List.mem_reverse.1 hx);have:=q2 a ha;rwa [List.getD_eq_getElem?_getD,List.getElem?_eq_getElem ha] at this
  obtain ⟨_,d2,_⟩:=aid hr hT hk;unfold layV;rw[if_pos h,Int.toNat_natCast];exact (aoj (by rw[d2];omega) _ y).trans (alI _ (t,[]) hm y)
 ·unfold layV
  rw[if_neg h];exact eqH.refl _
theorem ae2 (p:List St):∀ (l:List Nat) (k:Nat) (t:List Nod),(setS p k l t).length=t.length
 | [],_,_=>rfl
 | x :: l,k,t=>(ae2 p l (k+1) _).trans (List.length_set ..)
theorem ae3 (p:List St):∀ (l:List Nat) (k:Nat) (t:List Nod) (y:Nat),(∀ x∈l,x<t.length)→y∉l→ats (setS p k l t) y=ats t y
 | [],_,_,_,_,_=>rfl
 | x :: l,k,t,y,h,hy=>by
  show ats (setS p (k+1) l _) y=_
  rw[ae3 p l (k+1) _ y (fun z hz=>by rw[List.length_set];exact h z (by simp[hz])) (fun e=>hy (by simp[e])),abl _ _ _ _ (h x (by simp)),if_neg fun e=>hy (by simp[e])]
theorem aiN (p:List St):∀ (l:List Nat) (k:Nat) (t:List Nod),l.Nodup→(∀ x∈l,x<t.length)→∀ a,a<l.length→ats (setS p k l t) (l.getD a 0)=⟨2,0,(stAt p (k+a)).pub,[],[]⟩
 | [],_,_,_,_,a,h=>absurd h (Nat.not_lt_zero _)
 | x :: l,k,t,hn,h,0,_=>by
  show ats (setS p (k+1) l _) x=_
  rw[ae3 p l (k+1) _ x (fun z hz=>by rw[List.length_set];exact h z (by simp[hz])) (List.nodup_cons.1 hn).1,abl _ _ _ _ (h x (by simp)),if_pos rfl]
  rfl
 | x :: l,k,t,hn,h,a+1,ha=>by
  show ats (setS p (k+1) l _) (l.getD a 0)=_
  rw[aiN p l (k+1) _ (List.nodup_cons.1 hn).2 (fun z hz=>by rw[List.length_set];exact h z (by simp[hz])) a (by simpa using ha),show k+1+a=k+(a+1) by omega]
theorem ajZ {t:List Nod}{i K x:Nat}:x∈aaa t i K↔∃ k,k<K∧0<(whoF t i k).length∧x=nd (k+1) (i / 2 ^ (k+1)):=by
 unfold aaa;rw[List.mem_map];constructor
 ·rintro ⟨k,hk,rfl⟩
  obtain ⟨h1,h2⟩:=(aew t i K k).1 hk;exact ⟨k,h1,h2,rfl⟩
 ·rintro ⟨k,h1,h2,rfl⟩
  exact ⟨k,(aew t i K k).2 ⟨h1,h2⟩,rfl⟩
theorem aaw {t:List Nod}{i K x:Nat}(h:x∈aaa t i K):x∈aag K 0 i:=by
 obtain ⟨k,h1,_,rfl⟩:=ajZ.1 h;exact acr.2 ⟨k+1,by omega,by omega,rfl⟩
theorem abg (t:List Nod)(i K:Nat):(aaa t i K).Nodup:=by
 unfold aaa;refine List.pairwise_map.2 ((aeY t i K).imp fun {a b} h e=>?_);have:=(aeI e).1;omega
theorem aax (t:List Nod)(i K:Nat):(aaa t i K).length=(ixS t i K).length∧(whoN t i K).length=(ixS t i K).length:=by
 unfold aaa whoN;rw[List.length_map,List.length_map];exact ⟨rfl,rfl⟩
theorem afB {t:List Nod}{K i:Nat}(hr:aab t K)(hT:aa3 t K)(hk:(ats t (2*i)).kind=1)(p:Pa)(hp:p.pub.length=32)(hs:∀ a,a<(aaa t i K).length→(stAt p.step a).pub.length=32):
  aab (layP t (i:Int) (aaa t i K) p) K∧aa3 (layP t (i:Int) (aaa t i K) p) K∧(layP t (i:Int) (aaa t i K) p).length=t.length ∧
  (∀ y,y≠2*i→y∉aag K 0 i→eqH (ats (layP t (i:Int) (aaa t i K) p) y) (ats t y)) ∧
  eqH (ats (layP t (i:Int) (aaa t i K) p) (2*i)) (aah (ats t (2*i)).name p.pub) ∧
  (∀ a,a<(aaa t i K).length→eqH (ats (layP t (i:Int) (aaa t i K) p) ((aaa t i K).getD a 0)) ⟨2,0,(stAt p.step a).pub,[],[]⟩) ∧
  (∀ x∈aag K 0 i,x∉aaa t i K→eqH (ats (layP t (i:Int) (aaa t i K) p) x) aao):=by
 have hlt:=aab.lt_of (t:=t) (x:=2*i) (by rw[hk];decide);have hl2:=hr.len2;have hi:i<2 ^ K:=by omega
 have hth:=(hr.there_iff i).2 hk;have hE:updE t (i:Int) p.pub=0:=by unfold updE;rw[if_pos hp,if_pos hth]
 have hV:updV t (i:Int) p.pub=updT t i p.pub:=by unfold updV;rw[if_pos hE,Int.toNat_natCast]
 have hU:=hr.upd hk hp;have hA:=hr.updAt hi p.pub;have hL:=aab.updLen (t:=t) i p.pub;have hm:∀ x∈aaa t i K,x<(updT t i p.pub).length:=fun x hx=>by rw[hL,hr.len];exact abm hi (aaw hx)
 have hTU:aa3 (updT t i p.pub) K:=by
  refine ⟨hr.le,by rw[hL,hr.len],fun y=>?_,fun y hy=>?_⟩
  ·rw[hA]
   split
   ·have hn:=(hT.node (2*i)).name
    exact ⟨.inr (.inl rfl),hn,by show p.pub.length≤40;omega,Nat.zero_le _,Nat.zero_le _,fun i hi=>by cases hi⟩
   ·split
    ·exact ado.blank
    ·exact hT.node y
  ·rw[hA] at hy
   split at hy
   ·cases hy
   ·split at hy
    ·cases hy
    ·exact hT.par y hy
 have ho:∀ y,y∉aaa t i K→ats (setS p.step 0 (aaa t i K) (updT t i p.pub)) y=ats (updT t i p.pub) y:=fun y hy=>ae3 _ _ _ _ _ hm hy
 have hin:∀ a,a<(aaa t i K).length→ats (setS p.step 0 (aaa t i K) (updT t i p.pub)) ((aaa t i K).getD a 0)=⟨2,0,(stAt p.step a).pub,[],[]⟩:=fun a ha=>by
  have:=aiN p.step (aaa t i K) 0 (updT t i p.pub) (abg t i K) hm a ha;rwa [Nat.zero_add] at this
 have hSL:=ae2 p.step (aaa t i K) 0 (updT t i p.pub);have hov:∀ y,ats (setS p.step 0 (aaa t i K) (updT t i p.pub)) y=ats (updT t i p.pub) y∨(y % 2=1∧(ats (setS p.step 0 (aaa t i K) (updT t i p.pub)) y=aao∨∃ q:List UInt8,q.length=32∧ats (setS p.step 0 (aaa t i K) (updT t i p.pub)) y=⟨2,0,q,[],[]⟩)):=fun y=>by
  by_cases hy:y∈aaa t i K
  ·obtain ⟨a,ha,rfl⟩:=List.getElem_of_mem hy
   have e:=hin a ha;rw[List.getD_eq_getElem?_getD,List.getElem?_eq_getElem ha] at e;exact .inr ⟨aaP (aaw hy),.inr ⟨_,hs a ha,e⟩⟩
  ·exact .inl (ho y hy)
 have hrS:=hU.over hSL hov;have hTS:=hTU.over hSL hov;obtain ⟨g1,g2,g3⟩:=amo hrS hTS (i:Int);have hq:=apA hrS hTS (i:Int);unfold layP;rw[hV];refine ⟨g1,g2,g3.trans (hSL.trans hL),fun y h1 h2=>?_,?_,fun a ha=>?_,fun x hx h2=>?_⟩
 ·have:=hq y
  rwa [ho y (fun e=>h2 (aaw e)),hA,if_neg h1,if_neg h2] at this
 ·have:=hq (2*i)
  rwa [ho (2*i) (fun e=>by have:=aaP (aaw e);omega),hA,if_pos rfl] at this
 ·have:=hq ((aaa t i K).getD a 0)
  rwa [hin a ha] at this
 ·have:=hq x
  have hne:x≠2*i:=fun e=>by have:=aaP hx;omega
  rwa [ho x h2,hA,if_neg hne,if_pos hx] at this
theorem aiO:∀ (own:List Sd) (y:Int),(aaM own y).length≠0→∃ k,k<own.length∧(sdAt own k).node=y∧(sdAt own k).seed=aaM own y
 | [],y,h=>absurd rfl h
 | s :: l,y,h=>by
  unfold aaM at h ⊢
  by_cases e:s.node=y
  ·rw[if_pos e]
   exact ⟨0,by simp,e,rfl⟩
  ·rw[if_neg e] at h ⊢
   obtain ⟨k,h1,h2,h3⟩:=aiO l y h
   exact ⟨k+1,by simp;omega,h2,h3⟩
theorem aie {t:List Nod}{K me:Nat}(hr:aab t K)(hk:(ats t (2*me)).kind=1):∀ j,j≤K →
  ((2*me:Nat):Int)∈resF t j (me / 2 ^ j)∨∃ a,1≤a∧a≤j∧((nd a (me / 2 ^ a):Nat):Int)∈resF t j (me / 2 ^ j)∧(ats t (nd a (me / 2 ^ a))).kind=2∧(me:Int)∉(ats t (nd a (me / 2 ^ a))).un
 | 0,_=>by
  left
  have e:me / 2 ^ 0=me:=by simp
  unfold resF
  rw[e,abE,if_neg (by rw[hk];decide)]
  exact List.mem_cons_self ..
 | j+1,hj=>by
  have hdiv:me / 2 ^ (j+1)=me / 2 ^ j / 2:=by rw[Nat.pow_succ,Nat.div_div_eq_div_mul]
  by_cases h0:(ats t (nd (j+1) (me / 2 ^ (j+1)))).kind=0
  ·have hc:2*(me / 2 ^ (j+1))=me / 2 ^ j∨2*(me / 2 ^ (j+1))+1=me / 2 ^ j:=by omega
   have hsub:∀ y,y∈resF t j (me / 2 ^ j)→y∈resF t (j+1) (me / 2 ^ (j+1)):=fun y hy=>by
    unfold resF
    rw[if_pos h0,List.mem_append]
    rcases hc with e | e
    ·exact .inl (by rw[e];exact hy)
    ·exact .inr (by rw[e];exact hy)
   rcases aie hr hk j (by omega) with h | ⟨a,h1,h2,h3,h4⟩
   ·exact .inl (hsub _ h)
   ·exact .inr ⟨a,h1,by omega,hsub _ h3,h4⟩
  ·have hodd:=ago j (me / 2 ^ (j+1))
   have h2:(ats t (nd (j+1) (me / 2 ^ (j+1)))).kind=2:=by
    rcases hr.odd hodd with e | ⟨e,_⟩
    ·rw[e] at h0;exact absurd rfl h0
    ·exact e
   by_cases hu:(me:Int)∈(ats t (nd (j+1) (me / 2 ^ (j+1)))).un
   ·left
    unfold resF
    rw[if_neg h0]
    refine List.mem_cons_of_mem _ (List.mem_map.2 ⟨(me:Int),hu,by omega⟩)
   ·right
    refine ⟨j+1,by omega,Nat.le_refl _,?_,h2,hu⟩
    unfold resF
    rw[if_neg h0]
    exact List.mem_cons_self ..
theorem ab4 {K i me:Nat}(hK:K≤10)(hi:i<2 ^ K)(hm:me<2 ^ K)(hne:i≠me):
  1≤meet i me∧meet i me≤K∧i / 2 ^ (meet i me)=me / 2 ^ (meet i me)∧sq (i / 2 ^ (meet i me - 1))=me / 2 ^ (meet i me - 1):=by
 obtain ⟨h1,h2,h3⟩:=agq hK hi hm;obtain ⟨m,hM⟩:∃ m,meet i me=m:=⟨_,rfl⟩;rw[hM] at h1 h2 h3 ⊢;have hm0:m≠0:=fun e=>by subst e;simp at h2;exact hne h2
 obtain ⟨n,rfl⟩:∃ n,m=n+1:=⟨m - 1,by omega⟩;refine ⟨by omega,h1,h2,?_⟩;rw[Nat.add_sub_cancel];have h4:=h3 n (by omega);rw[Nat.pow_succ,← Nat.div_div_eq_div_mul,← Nat.div_div_eq_div_mul] at h2;generalize i / 2 ^ n=a at *;generalize me / 2 ^ n=b at *;clear h1 h3 hi hm;unfold sq;split <;> omega
theorem age {t:List Nod}{K i me:Nat}{own:List Sd}(hr:aab t K)(hi:i<2 ^ K)(hk:(ats t (2*me)).kind=1)(hm:me<2 ^ K)(hne:i≠me)(hs:aaI t K (me:Int) own):
  ∃ y∈whoF t i (meet i me - 1),(aaM own y).length≠0:=by
 obtain ⟨m1,m2,m3,m4⟩:=ab4 hr.le hi hm hne;obtain ⟨n,hn⟩:∃ n,meet i me - 1=n:=⟨_,rfl⟩;rw[hn] at m4 ⊢;have hq:me / 2 ^ n<2 ^ (K - n):=by
  have:=afi (K:=K) (j:=0) (q:=me) (i:=n) (by simpa using hm) (by omega);simpa using this
 have ew:whoF t i n=resF t n (me / 2 ^ n):=by
  unfold whoF;rw[m4];exact anw hr (by omega) hq
 obtain ⟨_,_,s3,s4⟩:=hs;rw[Int.toNat_natCast] at s3;rw[ew];rcases aie hr hk n (by omega) with h | ⟨a,h1,h2,h3,h4,h5⟩
 ·refine ⟨_,h,?_⟩
  have e:((2*me:Nat):Int)=2*(me:Int):=by omega
  rw[e];exact s4
 ·exact ⟨_,h3,s3 _ (acr.2 ⟨a,h1,by omega,rfl⟩) h4 h5⟩
theorem aee (t:List Nod)(secret info:List UInt8):∀ (l:List (List Int)) (s:List UInt8) (n k:Nat),k<l.length→∃ n',(stAt (makeS t secret info s n l) k).fors=abU t secret info (secS s k) n' (l.getD k [])
 | [],_,_,_,h=>absurd h (Nat.not_lt_zero _)
 | who :: l,s,n,0,_=>⟨n,rfl⟩
 | who :: l,s,n,k+1,h=>by
  obtain ⟨n',e⟩:=aee t secret info l (derB s acp) (n+who.length) k (by simpa using h)
  refine ⟨n',?_⟩
  show (stAt (makeS t secret info (derB s acp) (n+who.length) l) k).fors=_
  rw[e]
  have:=acZ s 1 k
  rw[Nat.add_comm] at this
  show abU t secret info (secS (derB s acp) k) n' (l.getD k [])=abU t secret info (secS s (k+1)) n' (l.getD k [])
  rw[this]
  rfl
theorem acM (t:List Nod)(K i:Nat)(seed secret info:List UInt8):aey (whoN t i K) (aaO t K i seed secret info):=by
 refine ⟨ac0 _ _ _ _ _ _,aaG _,fun k hk=>⟨?_,?_⟩⟩
 ·obtain ⟨n',e⟩:=aee t secret info (whoN t i K) secret 0 k hk
  show (stAt (makeS t secret info secret 0 (whoN t i K)) k).fors.length=_
  rw[e,aci]
 ·show (stAt (makeS t secret info secret 0 (whoN t i K)) k).pub.length=32
  rw[aeZ t secret info _ _ _ k hk];exact aaG _
def kM (t:List Nod)(i me:Nat):Nat:=(ixS t i (meet i me - 1)).length
theorem ae4 (t:List Nod)(i n:Nat)(h:0<(whoF t i n).length):∀ m,n<m→∃ rest,ixS t i m=ixS t i n++n :: rest
 | 0,hm=>absurd hm (Nat.not_lt_zero _)
 | m+1,hm=>by
  by_cases e:n=m
  ·subst e
   refine ⟨[],?_⟩
   rw[show ixS t i (n+1)=if (whoF t i n).length=0 then ixS t i n else ixS t i n++[n] from rfl,if_neg (by omega)]
  ·obtain ⟨rest,e2⟩:=ae4 t i n h m (by omega)
   show ∃ rest,(if (whoF t i m).length=0 then ixS t i m else ixS t i m++[m])=_
   split
   ·exact ⟨rest,e2⟩
   ·exact ⟨rest++[m],by rw[e2,List.append_assoc];rfl⟩
theorem apB {t:List Nod}{K i me:Nat}(hm:1≤meet i me∧meet i me≤K)(h:0<(whoF t i (meet i me - 1)).length):
  kM t i me<(ixS t i K).length∧(ixS t i K).getD (kM t i me) 0=meet i me - 1∧(whoN t i K).getD (kM t i me) []=whoF t i (meet i me - 1)∧(aaa t i K).getD (kM t i me) 0=nd (meet i me) (i / 2 ^ (meet i me)):=by
 obtain ⟨rest,e⟩:=ae4 t i _ h K (by omega);unfold kM;have hl:(ixS t i K).length=(ixS t i (meet i me - 1)).length+(rest.length+1):=by rw[e,List.length_append,List.length_cons]
 have hg:(ixS t i K)[(ixS t i (meet i me - 1)).length]?=some (meet i me - 1):=by
  rw[e,List.getElem?_append_right (Nat.le_refl _),Nat.sub_self];rfl
 refine ⟨by omega,?_,?_,?_⟩
 ·rw[List.getD_eq_getElem?_getD,hg];rfl
 ·unfold whoN
  rw[List.getD_eq_getElem?_getD,List.getElem?_map,hg];rfl
 ·unfold aaa
  rw[List.getD_eq_getElem?_getD,List.getElem?_map,hg];show nd (meet i me - 1+1) (i / 2 ^ (meet i me - 1+1))=_
  rw[show meet i me - 1+1=meet i me by omega]
def ad2 (t:List Nod)(K i me:Nat)(own:List Sd)(info:List UInt8)(p:Pa):List UInt8 × Int:=abb own info ((whoN t i K).getD (kM t i me) []) (stAt p.step (kM t i me)).fors
open Classical in
noncomputable def adw (t:List Nod) (K:Nat) (i me:Int) (own:List Sd) (info:List UInt8) (p:Pa):Int:=
 if ¬aar t i then 11 else if i=me then 1 else if ¬aey (whoN t i.toNat K) p then 2
 else if (ad2 t K i.toNat me.toNat own info p).2≠0 then (ad2 t K i.toNat me.toNat own info p).2
 else if ad1 p.step (ad2 t K i.toNat me.toNat own info p).1 (kM t i.toNat me.toNat) (ixS t i.toNat K).length then 0 else 5
open Classical in
noncomputable def ad3 (K i:Nat) (own:List Sd):List Sd:=own.filter fun s=>decide (¬∃ x∈aag K 0 i,((x:Nat):Int)=s.node)
noncomputable def acN (t:List Nod) (K:Nat) (i me:Int) (own:List Sd) (info:List UInt8) (p:Pa):Md:=
 if adw t K i me own info p=0 then
  ⟨layP t i (aaa t i.toNat K) p,ownS (ad3 K i.toNat own) (ad2 t K i.toNat me.toNat own info p).1 ((aaa t i.toNat K).drop (kM t i.toNat me.toNat)),p,secS (ad2 t K i.toNat me.toNat own info p).1 ((ixS t i.toNat K).length - kM t i.toNat me.toNat)⟩
 else noMd
theorem agY {t:List Nod}{K i me:Nat}{own:List Sd}{seed secret:List UInt8}(info:List UInt8)(hr:aab t K)(hki:(ats t (2*i)).kind=1)(hne:i≠me)(hs:aaI t K (me:Int) own)(h1:seed.length=32)(h2:secret.length=32):
  adw t K (i:Int) (me:Int) own info (aaO t K i seed secret info)=0∧ad2 t K i me own info (aaO t K i seed secret info)=(secS secret (kM t i me),0) ∧
  (acN t K (i:Int) (me:Int) own info (aaO t K i seed secret info)).tree=(abQ t K (i:Int) seed secret info).tree ∧
  (acN t K (i:Int) (me:Int) own info (aaO t K i seed secret info)).last=(abQ t K (i:Int) seed secret info).last ∧
  (acN t K (i:Int) (me:Int) own info (aaO t K i seed secret info)).path=(abQ t K (i:Int) seed secret info).path:=by
 have hkm:=(hr.there_iff me).1 hs.1;have hlen:=hr.len2;have hi:i<2 ^ K:=by have:=aab.lt_of (t:=t) (x:=2*i) (by rw[hki];decide);omega
 have hm:me<2 ^ K:=by have:=aab.lt_of (t:=t) (x:=2*me) (by rw[hkm];decide);omega
 obtain ⟨m1,m2,_,_⟩:=ab4 hr.le hi hm hne;obtain ⟨y,hy,hyk⟩:=age hr hi hkm hm hne hs;obtain ⟨k1,k2,k3,k4⟩:=apB (K:=K) ⟨m1,m2⟩ (List.length_pos_of_mem hy);have hwl:=(aax t i K).2;have hR:ad2 t K i me own info (aaO t K i seed secret info)=(secS secret (kM t i me),0):=by
  unfold ad2;obtain ⟨n',e⟩:=aee t secret info (whoN t i K) secret 0 (kM t i me) (by omega);show abb own info _ (stAt (makeS t secret info secret 0 (whoN t i K)) (kM t i me)).fors=_
  rw[e,k3];refine ajU (acu h2 _) _ _ (fun z hz hzk=>?_) ⟨y,hy,hyk⟩;obtain ⟨a,a1,a2,a3⟩:=aiO own z hzk;obtain ⟨_,b2,b3,_⟩:=hs.2.1 a a1;rw[a3] at b2 b3;rw[a2] at b3;exact ⟨b2,b3⟩
 have hE:adw t K (i:Int) (me:Int) own info (aaO t K i seed secret info)=0:=by
  unfold adw;rw[if_neg (by rw[Classical.not_not];exact (hr.there_iff i).2 hki),if_neg (by omega),Int.toNat_natCast,Int.toNat_natCast,if_neg (by rw[Classical.not_not];exact acM t K i seed secret info),hR,if_neg (by simp),if_pos];intro a ha;show _=(stAt (makeS t secret info secret 0 (whoN t i K)) (kM t i me+a)).pub
  rw[aeZ t secret info _ _ _ _ (by omega)];unfold aaU;rw[acZ]
 have hM:aex t (i:Int) seed secret=0:=by
  unfold aex acY;rw[if_pos ⟨h1,h2⟩,if_pos ((hr.there_iff i).2 hki)]
 have eT:acN t K (i:Int) (me:Int) own info (aaO t K i seed secret info)=⟨layP t (i:Int) (aaa t i K) (aaO t K i seed secret info),ownS (ad3 K i own) (secS secret (kM t i me)) ((aaa t i K).drop (kM t i me)),aaO t K i seed secret info,secS (secS secret (kM t i me)) ((ixS t i K).length - kM t i me)⟩:=by
  unfold acN;rw[if_pos hE,Int.toNat_natCast,Int.toNat_natCast,hR]
 have eM:abQ t K (i:Int) seed secret info=⟨layP t (i:Int) (aaa t i K) (aaO t K i seed secret info),ownS [⟨2*(i:Int),seed⟩] secret (aaa t i K),aaO t K i seed secret info,afy secret (ixS t i K).length⟩:=by
  unfold abQ;rw[if_pos hM,Int.toNat_natCast]
 refine ⟨hE,hR,?_,?_,?_⟩
 ·rw[eT,eM]
 ·rw[eT,eM]
  show secS (secS secret (kM t i me)) _=afy secret _
  unfold afy;rw[if_neg (by omega),← acZ];congr 1
  omega
 ·rw[eT,eM]
def srt (l:List Sd):Prop:=l.Pairwise fun a b=>a.node<b.node
theorem agf:∀ (l:List Sd) (s x:Sd),x∈putS l s↔x=s∨x∈l
 | [],s,x=>by simp[putS]
 | a :: l,s,x=>by
  unfold putS
  split
  ·rw[List.mem_cons]
  ·rw[List.mem_cons,agf l s x,List.mem_cons]
   constructor
   ·rintro (h | h | h)
    ·exact .inr (.inl h)
    ·exact .inl h
    ·exact .inr (.inr h)
   ·rintro (h | h | h)
    ·exact .inr (.inl h)
    ·exact .inl h
    ·exact .inr (.inr h)
theorem alJ:∀ (l:List Sd) (s:Sd),srt l→(∀ a∈l,a.node≠s.node)→srt (putS l s)
 | [],s,_,_=>List.pairwise_singleton _ _
 | a :: l,s,h,hn=>by
  have h1:=List.pairwise_cons.1 h
  unfold putS
  split
  ·next hlt=>
   refine List.pairwise_cons.2 ⟨fun b hb=>?_,h⟩
   rcases List.mem_cons.1 hb with e | e
   ·rw[e];exact hlt
   ·exact Int.lt_trans hlt (h1.1 b e)
  ·next hlt=>
   have hne:=hn a (by simp)
   refine List.pairwise_cons.2 ⟨fun b hb=>?_,alJ l s h1.2 fun b hb=>hn b (by simp[hb])⟩
   rcases (agf l s b).1 hb with e | e
   ·rw[e];omega
   ·exact h1.1 b e
theorem aiP:∀ (l:List Sd),srt l→∀ s∈l,aaM l s.node=s.seed
 | [],_,s,h=>by cases h
 | a :: l,hs,s,h=>by
  have h1:=List.pairwise_cons.1 hs
  unfold aaM
  rcases List.mem_cons.1 h with e | e
  ·rw[e,if_pos rfl]
  ·have:=h1.1 s e
   rw[if_neg (by omega)]
   exact aiP l h1.2 s e
theorem adx:∀ (xs:List Nat) (own:List Sd) (s:List UInt8) (x:Sd),x∈ownS own s xs↔x∈own∨∃ a,a<xs.length∧x=⟨((xs.getD a 0:Nat):Int),aaU s a⟩
 | [],own,s,x=>by
  show x∈own↔_
  exact ⟨fun h=>.inl h,fun h=>by
   rcases h with h | ⟨a,ha,_⟩
   ·exact h
   ·exact absurd ha (Nat.not_lt_zero _)⟩
 | y :: xs,own,s,x=>by
  show x∈ownS (putS own ⟨(y:Int),derB s ab0⟩) (derB s acp) xs↔_
  rw[adx xs,agf]
  have hs:∀ a,aaU (derB s acp) a=aaU s (a+1):=fun a=>by
   unfold aaU
   congr 1
   have:=acZ s 1 a
   rw[Nat.add_comm] at this
   exact this.symm
  constructor
  ·rintro ((h | h) | ⟨a,ha,h⟩)
   ·exact .inr ⟨0,by simp,h⟩
   ·exact .inl h
   ·exact .inr ⟨a+1,by simpa using ha,by rw[h,hs];rfl⟩
  ·rintro (h | ⟨a,ha,h⟩)
   ·exact .inl (.inr h)
   ·cases a with
    | zero=>exact .inl (.inl h)
    | succ a=>exact .inr ⟨a,by simpa using ha,by rw[h,hs];rfl⟩
theorem aiQ:∀ (xs:List Nat) (own:List Sd) (s:List UInt8),xs.Nodup→srt own→(∀ a∈own,∀ x∈xs,a.node≠((x:Nat):Int))→srt (ownS own s xs)
 | [],own,s,_,h,_=>h
 | y :: xs,own,s,hn,h,hd=>by
  have h1:=List.nodup_cons.1 hn
  refine aiQ xs _ _ h1.2 (alJ own _ h fun a ha=>hd a ha y (by simp)) fun a ha x hx=>?_
  rcases (agf _ _ _).1 ha with e | e
  ·rw[e]
   intro e2
   have:y=x:=Int.ofNat.inj e2
   subst this
   exact h1.1 hx
  ·exact hd a e x (by simp[hx])
theorem ae5 {l:List Sd}{k:Nat}(h:k<l.length):sdAt l k∈l:=by
 unfold sdAt;rw[List.getD_eq_getElem?_getD,List.getElem?_eq_getElem h];exact List.getElem_mem h
theorem aby {l:List Sd}{k:Nat}(h:k<l.length):sdAt l k=l[k]:=by
 unfold sdAt;rw[List.getD_eq_getElem?_getD,List.getElem?_eq_getElem h];rfl
theorem acj {t:List Nod}{K:Nat}{me:Int}{own:List Sd}:aaI t K me own ↔
  aar t me∧srt own∧(∀ s∈own,(s.node=2*me∨∃ x∈aag K 0 me.toNat,(x:Int)=s.node∧(ats t x).kind=2)∧s.seed.length=32∧pubB s.seed=(ats t s.node.toNat).pub) ∧
  (∀ x∈aag K 0 me.toNat,(ats t x).kind=2→me∉(ats t x).un→∃ s∈own,s.node=(x:Int))∧∃ s∈own,s.node=2*me:=by
 constructor
 ·rintro ⟨h1,h2,h3,h4⟩
  have hm:∀ s∈own,(s.node=2*me∨∃ x∈aag K 0 me.toNat,(x:Int)=s.node∧(ats t x).kind=2)∧s.seed.length=32∧pubB s.seed=(ats t s.node.toNat).pub:=fun s hs=>by
   obtain ⟨k,hk,rfl⟩:=List.getElem_of_mem hs;have:=h2 k hk;rw[aby hk] at this;exact ⟨this.1,this.2.1,this.2.2.1⟩
  have hadj:∀ d a,a+d+1<own.length→(sdAt own a).node<(sdAt own (a+d+1)).node:=fun d=>by
   induction d with
   | zero=>exact fun a ha=>by have:=(h2 (a+0+1) ha).2.2.2 (by omega);rwa [show a+0+1 - 1=a by omega] at this
   | succ d ih=>
    intro a ha;have g1:=ih a (by omega);have g2:=(h2 (a+(d+1)+1) ha).2.2.2 (by omega);rw[show a+(d+1)+1 - 1=a+d+1 by omega] at g2;exact Int.lt_trans g1 g2
  refine ⟨h1,List.pairwise_iff_getElem.2 fun a b ha hb hab=>?_,hm,fun x hx h5 h6=>?_,?_⟩
  ·have:=hadj (b - a - 1) a (by omega)
   rw[show a+(b - a - 1)+1=b by omega,aby ha,aby hb] at this;exact this
  ·obtain ⟨k,k1,k2,_⟩:=aiO own _ (h3 x hx h5 h6)
   exact ⟨_,ae5 k1,k2⟩
  ·obtain ⟨k,k1,k2,_⟩:=aiO own _ h4
   exact ⟨_,ae5 k1,k2⟩
 ·rintro ⟨h1,h2,h3,h4,h5⟩
  have hf:∀ s∈own,(aaM own s.node).length≠0:=fun s hs=>by
   rw[aiP own h2 s hs,(h3 s hs).2.1];decide
  refine ⟨h1,fun k hk=>?_,fun x hx h6 h7=>?_,?_⟩
  ·obtain ⟨g1,g2,g3⟩:=h3 _ (ae5 hk)
   refine ⟨g1,g2,g3,fun h0=>?_⟩;rw[aby hk,aby (show k - 1<own.length by omega)];exact List.pairwise_iff_getElem.1 h2 (k - 1) k (by omega) hk (by omega)
  ·obtain ⟨s,hs,e⟩:=h4 x hx h6 h7
   rw[← e];exact hf s hs
  ·obtain ⟨s,hs,e⟩:=h5
   rw[← e];exact hf s hs
theorem agh {t:List Nod}{K i:Nat}(seed secret info:List UInt8){a:Nat}(ha:a<(aaa t i K).length):(stAt (aaO t K i seed secret info).step a).pub=pubB (aaU secret a):=
 aeZ t secret info _ _ _ a (by have:=aax t i K;omega)
theorem amp {t:List Nod}{K i:Nat}{seed secret:List UInt8}(info:List UInt8)(hr:aab t K)(hT:aa3 t K)(hk:(ats t (2*i)).kind=1)(h1:seed.length=32)(h2:secret.length=32):
  aaI (layP t (i:Int) (aaa t i K) (aaO t K i seed secret info)) K (i:Int) (ownS [⟨2*(i:Int),seed⟩] secret (aaa t i K)):=by
 obtain ⟨f1,f2,f3,f4,f5,f6,f7⟩:=afB hr hT hk (aaO t K i seed secret info) (aaG seed) (fun a ha=>by rw[agh seed secret info ha];exact aaG _);rw[acj,Int.toNat_natCast];have e2:(2*(i:Int)).toNat=2*i:=by omega
 have hodd:∀ x∈aaa t i K,x % 2=1:=fun x hx=>aaP (aaw hx)
 refine ⟨(f1.there_iff i).2 f5.1,aiQ _ _ _ (abg t i K) (List.pairwise_singleton _ _) (fun a ha x hx=>?_),fun s hs=>?_,fun x hx g1 _=>?_,?_⟩
 ·simp at ha
  rw[ha];have:=hodd x hx;show 2*(i:Int)≠(x:Int)
  omega
 ·rcases (adx _ _ _ _).1 hs with hs | ⟨a,ha,rfl⟩
  ·simp at hs
   subst hs;refine ⟨.inl rfl,h1,?_⟩;show pubB seed=_
   rw[e2,f5.2.2.1];rfl
  ·have hm:(aaa t i K).getD a 0∈aaa t i K:=by rw[List.getD_eq_getElem?_getD,List.getElem?_eq_getElem ha];exact List.getElem_mem ha
   refine ⟨.inr ⟨_,aaw hm,rfl,(f6 a ha).1⟩,acX _ _,?_⟩;show pubB (aaU secret a)=_
   rw[Int.toNat_natCast,(f6 a ha).2.2.1];exact (agh seed secret info ha).symm
 ·by_cases hm:x∈aaa t i K
  ·obtain ⟨a,ha,rfl⟩:=List.getElem_of_mem hm
   refine ⟨_,(adx _ _ _ _).2 (.inr ⟨a,ha,rfl⟩),?_⟩;rw[List.getD_eq_getElem?_getD,List.getElem?_eq_getElem ha];rfl
  ·have:=(f7 x hx hm).1
   rw[this] at g1;cases g1
 ·exact ⟨⟨2*(i:Int),seed⟩,(adx _ _ _ _).2 (.inl (List.mem_singleton.2 rfl)),rfl⟩
theorem apC {t:List Nod}{K i me:Nat}(hi:i<2 ^ K)(hm:me<2 ^ K)(hK:K≤10)(hne:i≠me)(hw:0<(whoF t i (meet i me - 1)).length){x:Nat}:
  x∈(aaa t i K).drop (kM t i me)↔x∈aaa t i K∧x∈aag K 0 me:=by
 obtain ⟨m1,m2,m3,m4⟩:=ab4 hK hi hm hne;obtain ⟨_,_,g3⟩:=agq hK hi hm;obtain ⟨rest,e⟩:=ae4 t i _ hw K (by omega);have hsame:∀ h,meet i me≤h→i / 2 ^ h=me / 2 ^ h:=fun h hh=>by
  obtain ⟨d,rfl⟩:=Nat.exists_eq_add_of_le hh;rw[Nat.pow_add,← Nat.div_div_eq_div_mul,← Nat.div_div_eq_div_mul,m3]
 have hr:=aeY t i K;have hd:(aaa t i K).drop (kM t i me)=((meet i me - 1) :: rest).map fun k=>nd (k+1) (i / 2 ^ (k+1)):=by
  unfold aaa kM;rw[← List.map_drop,e,List.drop_left]
 have hge:∀ k∈(meet i me - 1) :: rest,meet i me - 1≤k:=fun k hk=>by
  rw[e] at hr;have h2:=(List.pairwise_append.1 hr).2.1;rcases List.mem_cons.1 hk with e | e
  ·omega
  ·have:=(List.pairwise_cons.1 h2).1 k e
   omega
 constructor
 ·intro hx
  refine ⟨List.mem_of_mem_drop hx,?_⟩;rw[hd] at hx;obtain ⟨k,hk,rfl⟩:=List.mem_map.1 hx;have h1:=hge k hk;have h2:k<K:=aib t i K k (by rw[e];exact List.mem_append.2 (.inr hk));exact acr.2 ⟨k+1,by omega,by omega,by rw[hsame (k+1) (by omega)]⟩
 ·rintro ⟨h1,h2⟩
  obtain ⟨k,k1,k2,rfl⟩:=ajZ.1 h1;obtain ⟨h,h3,h4,h5⟩:=acr.1 h2;obtain ⟨e1,e2⟩:=aeI h5;subst e1;have hle:meet i me≤k+1:=Nat.le_of_not_lt fun hlt=>g3 (k+1) hlt e2
  have hin:=(aew t i K k).2 ⟨k1,k2⟩;rw[hd];refine List.mem_map.2 ⟨k,?_,rfl⟩;rw[e] at hin;rcases List.mem_append.1 hin with h6 | h6
  ·have:=aib t i _ k h6
   omega
  ·exact h6
theorem agi {K i:Nat}{own:List Sd}{s:Sd}:s∈ad3 K i own↔s∈own∧¬∃ x∈aag K 0 i,((x:Nat):Int)=s.node:=by
 unfold ad3;rw[List.mem_filter,decide_eq_true_eq]
theorem amq {t:List Nod}{K i me:Nat}{own:List Sd}{seed secret:List UInt8}(info:List UInt8)(hr:aab t K)(hT:aa3 t K)(hk:(ats t (2*i)).kind=1)(hne:i≠me)(hs:aaI t K (me:Int) own)(h1:seed.length=32)(h2:secret.length=32):
  aaI (layP t (i:Int) (aaa t i K) (aaO t K i seed secret info)) K (me:Int) (ownS (ad3 K i own) (secS secret (kM t i me)) ((aaa t i K).drop (kM t i me))):=by
 have hkm:=(hr.there_iff me).1 hs.1;have hlen:=hr.len2;have hi:i<2 ^ K:=by have:=aab.lt_of (t:=t) (x:=2*i) (by rw[hk];decide);omega
 have hm:me<2 ^ K:=by have:=aab.lt_of (t:=t) (x:=2*me) (by rw[hkm];decide);omega
 obtain ⟨m1,m2,_,_⟩:=ab4 hr.le hi hm hne;obtain ⟨y,hy,_⟩:=age hr hi hkm hm hne hs;have hw:=List.length_pos_of_mem hy;obtain ⟨k1,_,_,_⟩:=apB (K:=K) ⟨m1,m2⟩ hw;have hDM:=fun {x}=>apC (t:=t) (x:=x) hi hm hr.le hne hw
 obtain ⟨f1,f2,f3,f4,f5,f6,f7⟩:=afB hr hT hk (aaO t K i seed secret info) (aaG seed) (fun a ha=>by rw[agh seed secret info ha];exact aaG _);obtain ⟨s1,s2,s3,s4,s5⟩:=acj.1 hs;rw[Int.toNat_natCast] at s3 s4;have e2:(2*(me:Int)).toNat=2*me:=by omega
 have hoff:∀ x,x∉aag K 0 i→x≠2*i→eqH (ats (layP t (i:Int) (aaa t i K) (aaO t K i seed secret info)) x) (ats t x):=fun x a b=>f4 x b a
 have hme0:2*me∉aag K 0 i:=fun h=>by have:=aaP h;omega
 rw[acj,Int.toNat_natCast];refine ⟨(f1.there_iff me).2 ((hoff _ hme0 (by omega)).1.trans hkm),aiQ _ _ _ ((abg t i K).sublist (List.drop_sublist _ _)) (s2.sublist List.filter_sublist) (fun a ha x hx e=>?_),fun s hs=>?_,fun x hx g1 g2=>?_,?_⟩
 ·exact (agi.1 ha).2 ⟨x,aaw (List.mem_of_mem_drop hx),e.symm⟩
 ·rcases (adx _ _ _ _).1 hs with hs | ⟨a,ha,rfl⟩
  ·obtain ⟨q1,q2⟩:=agi.1 hs
   obtain ⟨p1,p2,p3⟩:=s3 s q1;refine ⟨?_,p2,?_⟩
   ·rcases p1 with p1 | ⟨x,x1,x2,x3⟩
    ·exact .inl p1
    ·have hx0:x∉aag K 0 i:=fun h=>q2 ⟨x,h,x2⟩
     exact .inr ⟨x,x1,x2,(hoff x hx0 (fun e=>by have:=aaP x1;omega)).1.trans x3⟩
   ·rw[p3]
    rcases p1 with p1 | ⟨x,x1,x2,x3⟩
    ·rw[p1,e2]
     exact (hoff _ hme0 (by omega)).2.2.1.symm
    ·rw[← x2,Int.toNat_natCast]
     exact (hoff x (fun h=>q2 ⟨x,h,x2⟩) (fun e=>by have:=aaP x1;omega)).2.2.1.symm
  ·have hdl:((aaa t i K).drop (kM t i me)).length=(aaa t i K).length - kM t i me:=List.length_drop ..
   have hka:kM t i me+a<(aaa t i K).length:=by omega
   have hg:((aaa t i K).drop (kM t i me)).getD a 0=(aaa t i K).getD (kM t i me+a) 0:=by
    rw[List.getD_eq_getElem?_getD,List.getElem?_drop,← List.getD_eq_getElem?_getD]
   have hmem:((aaa t i K).drop (kM t i me)).getD a 0∈(aaa t i K).drop (kM t i me):=by rw[List.getD_eq_getElem?_getD,List.getElem?_eq_getElem ha];exact List.getElem_mem ha
   have h6:=f6 _ hka;rw[← hg] at h6;refine ⟨.inr ⟨_,(hDM.1 hmem).2,rfl,h6.1⟩,acX _ _,?_⟩;show pubB (aaU (secS secret (kM t i me)) a)=_
   rw[Int.toNat_natCast,h6.2.2.1];show _=(stAt (aaO t K i seed secret info).step (kM t i me+a)).pub
   rw[agh seed secret info hka];unfold aaU;rw[acZ]
 ·by_cases hp:x∈aag K 0 i
  ·have hst:x∈aaa t i K:=Classical.byContradiction fun h=>by
    have:=(f7 x hp h).1;rw[this] at g1;cases g1
   obtain ⟨a,ha,rfl⟩:=List.getElem_of_mem (hDM.2 ⟨hst,hx⟩);refine ⟨_,(adx _ _ _ _).2 (.inr ⟨a,ha,rfl⟩),?_⟩;rw[List.getD_eq_getElem?_getD,List.getElem?_eq_getElem ha];rfl
  ·have hq:=hoff x hp (fun e=>by have:=aaP hx;omega)
   obtain ⟨s,q1,q2⟩:=s4 x hx (hq.1▸g1) (by rw[← hq.2.2.2];exact g2);refine ⟨s,(adx _ _ _ _).2 (.inl (agi.2 ⟨q1,?_⟩)),q2⟩;rintro ⟨z,z1,z2⟩;rw[q2] at z2;have:z=x:=Int.ofNat.inj z2;subst this;exact hp z1
 ·obtain ⟨s,q1,q2⟩:=s5
  refine ⟨s,(adx _ _ _ _).2 (.inl (agi.2 ⟨q1,?_⟩)),q2⟩;rintro ⟨z,z1,z2⟩;have:=aaP z1;omega
end Go.Proofs.YthmhklmkgkfcpaaGreatDoor
