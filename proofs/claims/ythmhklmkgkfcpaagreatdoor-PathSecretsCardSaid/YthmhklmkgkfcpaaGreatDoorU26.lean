import Derived.Test.YthmhklmkgkfcpaaGreatDoorU8
import Derived.Test.YthmhklmkgkfcpaaGreatDoorU19
import Derived.Test.YthmhklmkgkfcpaaGreatDoorU22
import Derived.Test.YthmhklmkgkfcpaaGreatDoorU25
set_option linter.unusedVariables false
set_option linter.unusedSimpArgs false
set_option maxHeartbeats 8000000
set_option maxRecDepth 100000
namespace Go.Proofs.YthmhklmkgkfcpaaGreatDoor
open Go.RowKit
def abR:List UInt8:=[110,111,100,101]
def ab2:List UInt8:=[112,97,116,104]
def aqB:List UInt8:=[111,110,99,101]
def derB (s label:List UInt8):List UInt8:=labR s label [] 32
theorem acP (s label:List UInt8):(derB s label).length=32:=acg _ _ _
def whoF (t:List Nod)(i k:Nat):List Int:=resV t ((nd k (sq (i / 2 ^ k)):Nat):Int)
def ixS (t:List Nod)(i:Nat):Nat→List Nat
 | 0=>[]
 | m+1=>if (whoF t i m).length=0 then ixS t i m else ixS t i m++[m]
def aaa (t:List Nod)(i m:Nat):List Nat:=(ixS t i m).map fun k=>nd (k+1) (i / 2 ^ (k+1))
def whoN (t:List Nod)(i m:Nat):List (List Int):=(ixS t i m).map (whoF t i)
theorem als (t:List Nod)(i:Nat):∀ m,∀ k∈ixS t i m,k<m
 | 0,k,h=>by cases h
 | m+1,k,h=>by
  unfold ixS at h
  split at h
  ·have:=als t i m k h;omega
  ·rcases List.mem_append.1 h with h | h
   ·have:=als t i m k h;omega
   ·simp at h;omega
theorem afp (t:List Nod)(i:Nat):∀ m k,k∈ixS t i m↔k<m∧0<(whoF t i k).length
 | 0,k=>by simp[ixS]
 | m+1,k=>by
  unfold ixS
  split
  ·next h=>
   rw[afp t i m k]
   constructor
   ·exact fun ⟨h1,h2⟩=>⟨by omega,h2⟩
   ·rintro ⟨h1,h2⟩
    refine ⟨?_,h2⟩
    by_cases e:k=m
    ·subst e;omega
    ·omega
  ·next h=>
   rw[List.mem_append,afp t i m k]
   constructor
   ·rintro (⟨h1,h2⟩ | h1)
    ·exact ⟨by omega,h2⟩
    ·simp at h1;subst h1;exact ⟨by omega,by omega⟩
   ·rintro ⟨h1,h2⟩
    by_cases e:k=m
    ·exact .inr (by simp[e])
    ·exact .inl ⟨by omega,h2⟩
theorem af9 (t:List Nod)(i:Nat):∀ m,(ixS t i m).Pairwise (·<·)
 | 0=>List.Pairwise.nil
 | m+1=>by
  unfold ixS
  split
  ·exact af9 t i m
  ·refine List.pairwise_append.2 ⟨af9 t i m,List.pairwise_singleton _ _,fun a ha b hb=>?_⟩
   have:=als t i m a ha
   simp at hb
   omega
theorem ab3 (t:List Nod)(i m:Nat):(ixS t i m).length≤m:=by
 induction m with
 | zero=>exact Nat.le_refl _
 | succ m ih=>
  unfold ixS
  split
  ·omega
  ·rw[List.length_append,List.length_cons,List.length_nil];omega
def acE (t:List Nod)(i:Int):Int:=if aar t i then 0 else 11
def afF (t:List Nod)(K:Nat)(i:Int):List Nat:=if aar t i then aaa t i.toNat K else []
def abe:List Sd→Int→List UInt8
 | [],_=>[]
 | s :: l,x=>if s.node=x then s.seed else abe l x
def abB (t:List Nod)(K:Nat)(me:Int)(own:List Sd):Prop:=
 aar t me ∧
 (∀ k,k<own.length→((sdAt own k).node=2*me∨∃ x∈aah K 0 me.toNat,(x:Int)=(sdAt own k).node∧(ats t x).kind=2)∧(sdAt own k).seed.length=32 ∧
  pubB (sdAt own k).seed=(ats t (sdAt own k).node.toNat).pub∧(0<k→(sdAt own (k - 1)).node<(sdAt own k).node)) ∧
 (∀ x∈aah K 0 me.toNat,(ats t x).kind=2→me∉(ats t x).un→(abe own (x:Int)).length≠0)∧(abe own (2*me)).length≠0
def putS:List Sd→Sd→List Sd
 | [],s=>[s]
 | a :: l,s=>if s.node<a.node then s :: a :: l else a :: putS l s
def secS (s:List UInt8):Nat→List UInt8
 | 0=>s
 | k+1=>derB (secS s k) ab2
def adY (s:List UInt8)(n:Nat):List UInt8:=secS s (if n=0 then 1 else n)
theorem ab8 {s:List UInt8}(h:s.length=32):∀ k,(secS s k).length=32
 | 0=>h
 | k+1=>acP _ _
theorem adr (s:List UInt8)(a:Nat):∀ b,secS s (a+b)=secS (secS s a) b
 | 0=>rfl
 | b+1=>by show derB (secS s (a+b)) ab2=_;rw[adr s a b];rfl
def aaL (s:List UInt8)(k:Nat):List UInt8:=derB (secS s k) abR
def ac6 (secret:List UInt8)(n:Nat):List UInt8:=labR secret aqB (be 4 n) 32
def abW (t:List Nod)(secret info s:List UInt8):Nat→List Int→List Se
 | _,[]=>[]
 | n,y :: l=>⟨ahn (ats t y.toNat).pub (ac6 secret n),aho (ats t y.toNat).pub (ac6 secret n) info s⟩ :: abW t secret info s (n+1) l
theorem ach (t:List Nod)(secret info s:List UInt8):∀ (l:List Int) (n:Nat),(abW t secret info s n l).length=l.length
 | [],_=>rfl
 | _ :: l,n=>by unfold abW;rw[List.length_cons,List.length_cons,ach t secret info s l]
def makeS (t:List Nod)(secret info:List UInt8):List UInt8→Nat→List (List Int)→List St
 | _,_,[]=>[]
 | s,n,who :: l=>⟨pubR (derB s abR),abW t secret info s n who⟩ :: makeS t secret info (derB s ab2) (n+who.length) l
theorem acQ (t:List Nod)(secret info:List UInt8):∀ (l:List (List Int)) (s:List UInt8) (n:Nat),(makeS t secret info s n l).length=l.length
 | [],_,_=>rfl
 | _ :: l,s,n=>by unfold makeS;rw[List.length_cons,List.length_cons,acQ t secret info l]
theorem aeS (t:List Nod)(secret info:List UInt8):∀ (l:List (List Int)) (s:List UInt8) (n k:Nat),k<l.length→(stAt (makeS t secret info s n l) k).pub=pubB (aaL s k)
 | [],_,_,_,h=>absurd h (Nat.not_lt_zero _)
 | _ :: l,s,n,0,_=>(abQ (acP s abR)).2
 | who :: l,s,n,k+1,h=>by
  show (stAt (makeS t secret info (derB s ab2) (n+who.length) l) k).pub=_
  rw[aeS t secret info l _ _ k (by simpa using h)]
  unfold aaL
  congr 2
  have:=adr s 1 k
  rw[Nat.add_comm] at this
  exact this.symm
def ownS:List Sd→List UInt8→List Nat→List Sd
 | own,_,[]=>own
 | own,s,x :: l=>ownS (putS own ⟨(x:Int),derB s abR⟩) (derB s ab2) l
def setS (p:List St):Nat→List Nat→List Nod→List Nod
 | _,[],t=>t
 | k,x :: l,t=>setS p (k+1) l (t.set x ⟨2,0,(stAt p k).pub,[],[]⟩)
def layP (t:List Nod)(i:Int)(l:List Nat)(p:Pa):List Nod:=layV (setS p.step 0 l (updV t i p.pub)) i
structure Md where
 tree:List Nod
 own:List Sd
 path:Pa
 last:List UInt8
def noMd:Md:=⟨[],[],⟨[],[]⟩,[]⟩
def aet (t:List Nod)(i:Int)(seed secret:List UInt8):Int:=if seed.length=32∧secret.length=32 then acE t i else 1
def aaR (t:List Nod)(K i:Nat)(seed secret info:List UInt8):Pa:=⟨pubB seed,makeS t secret info secret 0 (whoN t i K)⟩
def abC (t:List Nod)(K:Nat)(i:Int)(seed secret info:List UInt8):Md:=
 if aet t i seed secret=0 then ⟨layP t i (aaa t i.toNat K) (aaR t K i.toNat seed secret info),ownS [⟨2*i,seed⟩] secret (aaa t i.toNat K),aaR t K i.toNat seed secret info,adY secret (ixS t i.toNat K).length⟩ else noMd
def aeu (who:List (List Int))(p:Pa):Prop:=
 p.step.length=who.length∧p.pub.length=32∧∀ k,k<who.length→(stAt p.step k).fors.length=(who.getD k []).length∧(stAt p.step k).pub.length=32
def aa8 (own:List Sd)(info:List UInt8):List Int→List Se→List UInt8 × Int
 | [],_=>([],5)
 | y :: l,f=>
  if (abe own y).length=0 then aa8 own info l f.tail
  else if (seAt f 0).half.length≠32 then ([],5)
  else if unE (abe own y) (seAt f 0).half info (seAt f 0).b≠0 then ([],unE (abe own y) (seAt f 0).half info (seAt f 0).b)
  else if (unR (abe own y) (seAt f 0).half info (seAt f 0).b).length≠32 then ([],2)
  else (unR (abe own y) (seAt f 0).half info (seAt f 0).b,0)
def adZ (p:List St)(s:List UInt8)(k n:Nat):Prop:=∀ a,k+a<n→pubB (aaL s a)=(stAt p (k+a)).pub
theorem Se.ext' {a b:Se}(h1:a.half=b.half)(h2:a.b=b.b):a=b:=by cases a;cases b;simp_all
theorem St.ext' {a b:St}(h1:a.pub=b.pub)(h2:a.fors=b.fors):a=b:=by cases a;cases b;simp_all
theorem Pa.ext' {a b:Pa}(h1:a.pub=b.pub)(h2:a.step=b.step):a=b:=by cases a;cases b;simp_all
theorem ajF {own:List Sd}{t:List Nod}{secret info s:List UInt8}(hs:s.length=32):∀ (l:List Int) (n:Nat),
  (∀ y∈l,(abe own y).length≠0→(abe own y).length=32∧pubB (abe own y)=(ats t y.toNat).pub)→(∃ y∈l,(abe own y).length≠0) →
  aa8 own info l (abW t secret info s n l)=(s,0)
 | [],_,_,⟨y,hy,_⟩=>by cases hy
 | y :: l,n,h,hex=>by
  unfold aa8
  by_cases hk:(abe own y).length=0
  ·rw[if_pos hk]
   have ih:=ajF (own:=own) (t:=t) (secret:=secret) (info:=info) hs l (n+1) (fun z hz=>h z (by simp[hz])) (by
    obtain ⟨z,hz,h2⟩:=hex
    rcases List.mem_cons.1 hz with e | e
    ·subst e;exact absurd hk h2
    ·exact ⟨z,e,h2⟩)
   exact ih
  ·rw[if_neg hk]
   obtain ⟨h1,h2⟩:=h y (by simp) hk
   have hon:(ac6 secret n).length=32:=acg _ _ _
   have hpl:(ats t y.toNat).pub.length=32:=by rw[← h2];exact aaM _
   obtain ⟨e1,e2,e3⟩:=ais info s (⟨hon,hpl⟩:okW (ats t y.toNat).pub (ac6 secret n))
   have e0:seAt (abW t secret info s n (y :: l)) 0=⟨pubB (ac6 secret n),adq (ats t y.toNat).pub (pubB (ac6 secret n)) info s⟩:=by
    show (⟨ahn (ats t y.toNat).pub (ac6 secret n),aho (ats t y.toNat).pub (ac6 secret n) info s⟩:Se)=_
    rw[e2,e3]
   have hh:=aaM (ac6 secret n)
   obtain ⟨u1,u2⟩:=al9 (seed:=abe own y) (half:=pubB (ac6 secret n)) info s h1 hh
   rw[e0,if_neg (by simpa using hh)]
   rw[h2] at u1 u2
   simp only[u1,u2]
   rw[if_neg (by decide),if_neg (by simpa using hs)]
def eqH (a b:Nod):Prop:=a.kind=b.kind∧a.name=b.name∧a.pub=b.pub∧a.un=b.un
theorem eqH.refl (a:Nod):eqH a a:=⟨rfl,rfl,rfl,rfl⟩
theorem eqH.trans {a b c:Nod}(h:eqH a b)(k:eqH b c):eqH a c:=⟨h.1.trans k.1,h.2.1.trans k.2.1,h.2.2.1.trans k.2.2.1,h.2.2.2.trans k.2.2.2⟩
theorem ape (n:Nod)(h:List UInt8):eqH (acX n h) n:=⟨rfl,rfl,rfl,rfl⟩
theorem an0 {t:List Nod}{x:Nat}(hx:x<t.length)(h:List UInt8)(y:Nat):eqH (ats (t.set x (acX (ats t x) h)) y) (ats t y):=by
 rw[abk _ _ _ _ hx];split
 ·next e=>subst e;exact ape _ _
 ·exact eqH.refl _
theorem apf {i:Nat}{s:List Nod × List UInt8}{x:Nat}(hx:x<s.1.length)(y:Nat):eqH (ats (layS i s x).1 y) (ats s.1 y):=by
 unfold layS;split
 ·exact an0 hx _ y
 ·exact eqH.refl _
theorem alv {i:Nat}:∀ (l:List Nat) (s:List Nod × List UInt8),(∀ x∈l,x<s.1.length)→∀ y,eqH (ats (l.foldl (layS i) s).1 y) (ats s.1 y)
 | [],s,_,y=>eqH.refl _
 | x :: l,s,h,y=>(alv l (layS i s x) (fun z hz=>by rw[alu];exact h z (by simp[hz])) y).trans (apf (h x (by simp)) y)
theorem apg {t:List Nod}{K:Nat}(hr:aab t K)(hT:aaZ t K)(i:Int)(y:Nat):eqH (ats (layV t i) y) (ats t y):=by
 by_cases h:aar t i
 ·obtain ⟨k,rfl⟩:=Int.eq_ofNat_of_zero_le h.1
  have h2:=h.2.1;rw[hr.lv] at h2;have hl:=hr.len2;have hk:k<2 ^ K:=by omega
  obtain ⟨_,q2,_⟩:=agL hr.le hr.len hk;have hm:∀ x∈(aau t k).reverse,x<t.length:=fun x hx=>by
   obtain ⟨a,ha,rfl⟩:=List.getElem_of_mem (List.mem_reverse.1 hx);have:=q2 a ha;rwa [List.getD_eq_getElem?_getD,List.getElem?_eq_getElem ha] at this
  obtain ⟨_,d2,_⟩:=ah2 hr hT hk;unfold layV;rw[if_pos h,Int.toNat_natCast];exact (an0 (by rw[d2];omega) _ y).trans (alv _ (t,[]) hm y)
 ·unfold layV
  rw[if_neg h];exact eqH.refl _
theorem aeT (p:List St):∀ (l:List Nat) (k:Nat) (t:List Nod),(setS p k l t).length=t.length
 | [],_,_=>rfl
 | x :: l,k,t=>(aeT p l (k+1) _).trans (List.length_set ..)
theorem aeU (p:List St):∀ (l:List Nat) (k:Nat) (t:List Nod) (y:Nat),(∀ x∈l,x<t.length)→y∉l→ats (setS p k l t) y=ats t y
 | [],_,_,_,_,_=>rfl
 | x :: l,k,t,y,h,hy=>by
  show ats (setS p (k+1) l _) y=_
  rw[aeU p l (k+1) _ y (fun z hz=>by rw[List.length_set];exact h z (by simp[hz])) (fun e=>hy (by simp[e])),abk _ _ _ _ (h x (by simp)),if_neg fun e=>hy (by simp[e])]
theorem aiA (p:List St):∀ (l:List Nat) (k:Nat) (t:List Nod),l.Nodup→(∀ x∈l,x<t.length)→∀ a,a<l.length→ats (setS p k l t) (l.getD a 0)=⟨2,0,(stAt p (k+a)).pub,[],[]⟩
 | [],_,_,_,_,a,h=>absurd h (Nat.not_lt_zero _)
 | x :: l,k,t,hn,h,0,_=>by
  show ats (setS p (k+1) l _) x=_
  rw[aeU p l (k+1) _ x (fun z hz=>by rw[List.length_set];exact h z (by simp[hz])) (List.nodup_cons.1 hn).1,abk _ _ _ _ (h x (by simp)),if_pos rfl]
  rfl
 | x :: l,k,t,hn,h,a+1,ha=>by
  show ats (setS p (k+1) l _) (l.getD a 0)=_
  rw[aiA p l (k+1) _ (List.nodup_cons.1 hn).2 (fun z hz=>by rw[List.length_set];exact h z (by simp[hz])) a (by simpa using ha),show k+1+a=k+(a+1) by omega]
theorem an1 {t:List Nod}{i K x:Nat}:x∈aaa t i K↔∃ k,k<K∧0<(whoF t i k).length∧x=nd (k+1) (i / 2 ^ (k+1)):=by
 unfold aaa;rw[List.mem_map];constructor
 ·rintro ⟨k,hk,rfl⟩
  obtain ⟨h1,h2⟩:=(afp t i K k).1 hk;exact ⟨k,h1,h2,rfl⟩
 ·rintro ⟨k,h1,h2,rfl⟩
  exact ⟨k,(afp t i K k).2 ⟨h1,h2⟩,rfl⟩
theorem aay {t:List Nod}{i K x:Nat}(h:x∈aaa t i K):x∈aah K 0 i:=by
 obtain ⟨k,h1,_,rfl⟩:=an1.1 h;exact af5.2 ⟨k+1,by omega,by omega,rfl⟩
theorem abo (t:List Nod)(i K:Nat):(aaa t i K).Nodup:=by
 unfold aaa;refine List.pairwise_map.2 ((af9 t i K).imp fun {a b} h e=>?_);have:=(afy e).1;omega
theorem aax (t:List Nod)(i K:Nat):(aaa t i K).length=(ixS t i K).length∧(whoN t i K).length=(ixS t i K).length:=by
 unfold aaa whoN;rw[List.length_map,List.length_map];exact ⟨rfl,rfl⟩
theorem afs {t:List Nod}{K i:Nat}(hr:aab t K)(hT:aaZ t K)(hk:(ats t (2*i)).kind=1)(p:Pa)(hp:p.pub.length=32)(hs:∀ a,a<(aaa t i K).length→(stAt p.step a).pub.length=32):
  aab (layP t (i:Int) (aaa t i K) p) K∧aaZ (layP t (i:Int) (aaa t i K) p) K∧(layP t (i:Int) (aaa t i K) p).length=t.length ∧
  (∀ y,y≠2*i→y∉aah K 0 i→eqH (ats (layP t (i:Int) (aaa t i K) p) y) (ats t y)) ∧
  eqH (ats (layP t (i:Int) (aaa t i K) p) (2*i)) (aag (ats t (2*i)).name p.pub) ∧
  (∀ a,a<(aaa t i K).length→eqH (ats (layP t (i:Int) (aaa t i K) p) ((aaa t i K).getD a 0)) ⟨2,0,(stAt p.step a).pub,[],[]⟩) ∧
  (∀ x∈aah K 0 i,x∉aaa t i K→eqH (ats (layP t (i:Int) (aaa t i K) p) x) aan):=by
 have hlt:=aab.lt_of (t:=t) (x:=2*i) (by rw[hk];decide);have hl2:=hr.len2;have hi:i<2 ^ K:=by omega
 have hth:=(hr.there_iff i).2 hk;have hE:updE t (i:Int) p.pub=0:=by unfold updE;rw[if_pos hp,if_pos hth]
 have hV:updV t (i:Int) p.pub=updT t i p.pub:=by unfold updV;rw[if_pos hE,Int.toNat_natCast]
 have hU:=hr.upd hk hp;have hA:=hr.updAt hi p.pub;have hL:=aab.updLen (t:=t) i p.pub;have hm:∀ x∈aaa t i K,x<(updT t i p.pub).length:=fun x hx=>by rw[hL,hr.len];exact aby hi (aay hx)
 have hTU:aaZ (updT t i p.pub) K:=by
  refine ⟨hr.le,by rw[hL,hr.len],fun y=>?_,fun y hy=>?_⟩
  ·rw[hA]
   split
   ·have hn:=(hT.node (2*i)).name
    exact ⟨.inr (.inl rfl),hn,by show p.pub.length≤40;omega,Nat.zero_le _,Nat.zero_le _,fun i hi=>by cases hi⟩
   ·split
    ·exact adj.blank
    ·exact hT.node y
  ·rw[hA] at hy
   split at hy
   ·cases hy
   ·split at hy
    ·cases hy
    ·exact hT.par y hy
 have ho:∀ y,y∉aaa t i K→ats (setS p.step 0 (aaa t i K) (updT t i p.pub)) y=ats (updT t i p.pub) y:=fun y hy=>aeU _ _ _ _ _ hm hy
 have hin:∀ a,a<(aaa t i K).length→ats (setS p.step 0 (aaa t i K) (updT t i p.pub)) ((aaa t i K).getD a 0)=⟨2,0,(stAt p.step a).pub,[],[]⟩:=fun a ha=>by
  have:=aiA p.step (aaa t i K) 0 (updT t i p.pub) (abo t i K) hm a ha;rwa [Nat.zero_add] at this
 have hSL:=aeT p.step (aaa t i K) 0 (updT t i p.pub);have hov:∀ y,ats (setS p.step 0 (aaa t i K) (updT t i p.pub)) y=ats (updT t i p.pub) y∨(y % 2=1∧(ats (setS p.step 0 (aaa t i K) (updT t i p.pub)) y=aan∨∃ q:List UInt8,q.length=32∧ats (setS p.step 0 (aaa t i K) (updT t i p.pub)) y=⟨2,0,q,[],[]⟩)):=fun y=>by
  by_cases hy:y∈aaa t i K
  ·obtain ⟨a,ha,rfl⟩:=List.getElem_of_mem hy
   have e:=hin a ha;rw[List.getD_eq_getElem?_getD,List.getElem?_eq_getElem ha] at e;exact .inr ⟨aba (aay hy),.inr ⟨_,hs a ha,e⟩⟩
  ·exact .inl (ho y hy)
 have hrS:=hU.over hSL hov;have hTS:=hTU.over hSL hov;obtain ⟨g1,g2,g3⟩:=amc hrS hTS (i:Int);have hq:=apg hrS hTS (i:Int);unfold layP;rw[hV];refine ⟨g1,g2,g3.trans (hSL.trans hL),fun y h1 h2=>?_,?_,fun a ha=>?_,fun x hx h2=>?_⟩
 ·have:=hq y
  rwa [ho y (fun e=>h2 (aay e)),hA,if_neg h1,if_neg h2] at this
 ·have:=hq (2*i)
  rwa [ho (2*i) (fun e=>by have:=aba (aay e);omega),hA,if_pos rfl] at this
 ·have:=hq ((aaa t i K).getD a 0)
  rwa [hin a ha] at this
 ·have:=hq x
  have hne:x≠2*i:=fun e=>by have:=aba hx;omega
  rwa [ho x h2,hA,if_neg hne,if_pos hx] at this
theorem aiB:∀ (own:List Sd) (y:Int),(abe own y).length≠0→∃ k,k<own.length∧(sdAt own k).node=y∧(sdAt own k).seed=abe own y
 | [],y,h=>absurd rfl h
 | s :: l,y,h=>by
  unfold abe at h ⊢
  by_cases e:s.node=y
  ·rw[if_pos e]
   exact ⟨0,by simp,e,rfl⟩
  ·rw[if_neg e] at h ⊢
   obtain ⟨k,h1,h2,h3⟩:=aiB l y h
   exact ⟨k+1,by simp;omega,h2,h3⟩
theorem ah3 {t:List Nod}{K me:Nat}(hr:aab t K)(hk:(ats t (2*me)).kind=1):∀ j,j≤K →
  ((2*me:Nat):Int)∈resF t j (me / 2 ^ j)∨∃ a,1≤a∧a≤j∧((nd a (me / 2 ^ a):Nat):Int)∈resF t j (me / 2 ^ j)∧(ats t (nd a (me / 2 ^ a))).kind=2∧(me:Int)∉(ats t (nd a (me / 2 ^ a))).un
 | 0,_=>by
  left
  have e:me / 2 ^ 0=me:=by simp
  unfold resF
  rw[e,abK,if_neg (by rw[hk];decide)]
  exact List.mem_cons_self ..
 | j+1,hj=>by
  have hdiv:me / 2 ^ (j+1)=me / 2 ^ j / 2:=by rw[Nat.pow_succ,Nat.div_div_eq_div_mul]
  by_cases h0:(ats t (nd (j+1) (me / 2 ^ (j+1)))).kind=0
  ·have hc:2*(me / 2 ^ (j+1))=me / 2 ^ j∨2*(me / 2 ^ (j+1))+1=me / 2 ^ j:=by omega
   have hsub:∀ y,y∈resF t j (me / 2 ^ j)→y∈resF t (j+1) (me / 2 ^ (j+1)):=fun y hy=>by
    unfold resF
    rw[if_pos h0,List.mem_append]
    rcases hc with e | e
    ·exact .inl (by rw[e];exact hy)
    ·exact .inr (by rw[e];exact hy)
   rcases ah3 hr hk j (by omega) with h | ⟨a,h1,h2,h3,h4⟩
   ·exact .inl (hsub _ h)
   ·exact .inr ⟨a,h1,by omega,hsub _ h3,h4⟩
  ·have hodd:=afx j (me / 2 ^ (j+1))
   have h2:(ats t (nd (j+1) (me / 2 ^ (j+1)))).kind=2:=by
    rcases hr.odd hodd with e | ⟨e,_⟩
    ·rw[e] at h0;exact absurd rfl h0
    ·exact e
   by_cases hu:(me:Int)∈(ats t (nd (j+1) (me / 2 ^ (j+1)))).un
   ·left
    unfold resF
    rw[if_neg h0]
    refine List.mem_cons_of_mem _ (List.mem_map.2 ⟨(me:Int),hu,by omega⟩)
   ·right
    refine ⟨j+1,by omega,Nat.le_refl _,?_,h2,hu⟩
    unfold resF
    rw[if_neg h0]
    exact List.mem_cons_self ..
theorem ac8 {K i me:Nat}(hK:K≤10)(hi:i<2 ^ K)(hm:me<2 ^ K)(hne:i≠me):
  1≤meet i me∧meet i me≤K∧i / 2 ^ (meet i me)=me / 2 ^ (meet i me)∧sq (i / 2 ^ (meet i me - 1))=me / 2 ^ (meet i me - 1):=by
 obtain ⟨h1,h2,h3⟩:=aja hK hi hm;obtain ⟨m,hM⟩:∃ m,meet i me=m:=⟨_,rfl⟩;rw[hM] at h1 h2 h3 ⊢;have hm0:m≠0:=fun e=>by subst e;simp at h2;exact hne h2
 obtain ⟨n,rfl⟩:∃ n,m=n+1:=⟨m - 1,by omega⟩;refine ⟨by omega,h1,h2,?_⟩;rw[Nat.add_sub_cancel];have h4:=h3 n (by omega);rw[Nat.pow_succ,← Nat.div_div_eq_div_mul,← Nat.div_div_eq_div_mul] at h2;generalize i / 2 ^ n=a at *;generalize me / 2 ^ n=b at *;clear h1 h3 hi hm;unfold sq;split <;> omega
theorem aiC {t:List Nod}{K i me:Nat}{own:List Sd}(hr:aab t K)(hi:i<2 ^ K)(hk:(ats t (2*me)).kind=1)(hm:me<2 ^ K)(hne:i≠me)(hs:abB t K (me:Int) own):
  ∃ y∈whoF t i (meet i me - 1),(abe own y).length≠0:=by
 obtain ⟨m1,m2,m3,m4⟩:=ac8 hr.le hi hm hne;obtain ⟨n,hn⟩:∃ n,meet i me - 1=n:=⟨_,rfl⟩;rw[hn] at m4 ⊢;have hq:me / 2 ^ n<2 ^ (K - n):=by
  have:=ae9 (K:=K) (j:=0) (q:=me) (i:=n) (by simpa using hm) (by omega);simpa using this
 have ew:whoF t i n=resF t n (me / 2 ^ n):=by
  unfold whoF;rw[m4];exact alf hr (by omega) hq
 obtain ⟨_,_,s3,s4⟩:=hs;rw[Int.toNat_natCast] at s3;rw[ew];rcases ah3 hr hk n (by omega) with h | ⟨a,h1,h2,h3,h4,h5⟩
 ·refine ⟨_,h,?_⟩
  have e:((2*me:Nat):Int)=2*(me:Int):=by omega
  rw[e];exact s4
 ·exact ⟨_,h3,s3 _ (af5.2 ⟨a,h1,by omega,rfl⟩) h4 h5⟩
theorem aec (t:List Nod)(secret info:List UInt8):∀ (l:List (List Int)) (s:List UInt8) (n k:Nat),k<l.length→∃ n',(stAt (makeS t secret info s n l) k).fors=abW t secret info (secS s k) n' (l.getD k [])
 | [],_,_,_,h=>absurd h (Nat.not_lt_zero _)
 | who :: l,s,n,0,_=>⟨n,rfl⟩
 | who :: l,s,n,k+1,h=>by
  obtain ⟨n',e⟩:=aec t secret info l (derB s ab2) (n+who.length) k (by simpa using h)
  refine ⟨n',?_⟩
  show (stAt (makeS t secret info (derB s ab2) (n+who.length) l) k).fors=_
  rw[e]
  have:=adr s 1 k
  rw[Nat.add_comm] at this
  show abW t secret info (secS (derB s ab2) k) n' (l.getD k [])=abW t secret info (secS s (k+1)) n' (l.getD k [])
  rw[this]
  rfl
theorem abS (t:List Nod)(K i:Nat)(seed secret info:List UInt8):aeu (whoN t i K) (aaR t K i seed secret info):=by
 refine ⟨acQ _ _ _ _ _ _,aaM _,fun k hk=>⟨?_,?_⟩⟩
 ·obtain ⟨n',e⟩:=aec t secret info (whoN t i K) secret 0 k hk
  show (stAt (makeS t secret info secret 0 (whoN t i K)) k).fors.length=_
  rw[e,ach]
 ·show (stAt (makeS t secret info secret 0 (whoN t i K)) k).pub.length=32
  rw[aeS t secret info _ _ _ k hk];exact aaM _
def kM (t:List Nod)(i me:Nat):Nat:=(ixS t i (meet i me - 1)).length
theorem agM (t:List Nod)(i n:Nat)(h:0<(whoF t i n).length):∀ m,n<m→∃ rest,ixS t i m=ixS t i n++n :: rest
 | 0,hm=>absurd hm (Nat.not_lt_zero _)
 | m+1,hm=>by
  by_cases e:n=m
  ·subst e
   refine ⟨[],?_⟩
   rw[show ixS t i (n+1)=if (whoF t i n).length=0 then ixS t i n else ixS t i n++[n] from rfl,if_neg (by omega)]
  ·obtain ⟨rest,e2⟩:=agM t i n h m (by omega)
   show ∃ rest,(if (whoF t i m).length=0 then ixS t i m else ixS t i m++[m])=_
   split
   ·exact ⟨rest,e2⟩
   ·exact ⟨rest++[m],by rw[e2,List.append_assoc];rfl⟩
theorem aqG {t:List Nod}{K i me:Nat}(hm:1≤meet i me∧meet i me≤K)(h:0<(whoF t i (meet i me - 1)).length):
  kM t i me<(ixS t i K).length∧(ixS t i K).getD (kM t i me) 0=meet i me - 1∧(whoN t i K).getD (kM t i me) []=whoF t i (meet i me - 1)∧(aaa t i K).getD (kM t i me) 0=nd (meet i me) (i / 2 ^ (meet i me)):=by
 obtain ⟨rest,e⟩:=agM t i _ h K (by omega);unfold kM;have hl:(ixS t i K).length=(ixS t i (meet i me - 1)).length+(rest.length+1):=by rw[e,List.length_append,List.length_cons]
 have hg:(ixS t i K)[(ixS t i (meet i me - 1)).length]?=some (meet i me - 1):=by
  rw[e,List.getElem?_append_right (Nat.le_refl _),Nat.sub_self];rfl
 refine ⟨by omega,?_,?_,?_⟩
 ·rw[List.getD_eq_getElem?_getD,hg];rfl
 ·unfold whoN
  rw[List.getD_eq_getElem?_getD,List.getElem?_map,hg];rfl
 ·unfold aaa
  rw[List.getD_eq_getElem?_getD,List.getElem?_map,hg];show nd (meet i me - 1+1) (i / 2 ^ (meet i me - 1+1))=_
  rw[show meet i me - 1+1=meet i me by omega]
def ad1 (t:List Nod)(K i me:Nat)(own:List Sd)(info:List UInt8)(p:Pa):List UInt8 × Int:=aa8 own info ((whoN t i K).getD (kM t i me) []) (stAt p.step (kM t i me)).fors
open Classical in
noncomputable def adt (t:List Nod) (K:Nat) (i me:Int) (own:List Sd) (info:List UInt8) (p:Pa):Int:=
 if ¬aar t i then 11 else if i=me then 1 else if ¬aeu (whoN t i.toNat K) p then 2
 else if (ad1 t K i.toNat me.toNat own info p).2≠0 then (ad1 t K i.toNat me.toNat own info p).2
 else if adZ p.step (ad1 t K i.toNat me.toNat own info p).1 (kM t i.toNat me.toNat) (ixS t i.toNat K).length then 0 else 5
open Classical in
noncomputable def afW (K i:Nat) (own:List Sd):List Sd:=own.filter fun s=>decide (¬∃ x∈aah K 0 i,((x:Nat):Int)=s.node)
noncomputable def adu (t:List Nod) (K:Nat) (i me:Int) (own:List Sd) (info:List UInt8) (p:Pa):Md:=
 if adt t K i me own info p=0 then
  ⟨layP t i (aaa t i.toNat K) p,ownS (afW K i.toNat own) (ad1 t K i.toNat me.toNat own info p).1 ((aaa t i.toNat K).drop (kM t i.toNat me.toNat)),p,secS (ad1 t K i.toNat me.toNat own info p).1 ((ixS t i.toNat K).length - kM t i.toNat me.toNat)⟩
 else noMd
theorem an2 {t:List Nod}{K i me:Nat}{own:List Sd}{seed secret:List UInt8}(info:List UInt8)(hr:aab t K)(hki:(ats t (2*i)).kind=1)(hne:i≠me)(hs:abB t K (me:Int) own)(h1:seed.length=32)(h2:secret.length=32):
  adt t K (i:Int) (me:Int) own info (aaR t K i seed secret info)=0∧ad1 t K i me own info (aaR t K i seed secret info)=(secS secret (kM t i me),0) ∧
  (adu t K (i:Int) (me:Int) own info (aaR t K i seed secret info)).tree=(abC t K (i:Int) seed secret info).tree ∧
  (adu t K (i:Int) (me:Int) own info (aaR t K i seed secret info)).last=(abC t K (i:Int) seed secret info).last ∧
  (adu t K (i:Int) (me:Int) own info (aaR t K i seed secret info)).path=(abC t K (i:Int) seed secret info).path:=by
 have hkm:=(hr.there_iff me).1 hs.1;have hlen:=hr.len2;have hi:i<2 ^ K:=by have:=aab.lt_of (t:=t) (x:=2*i) (by rw[hki];decide);omega
 have hm:me<2 ^ K:=by have:=aab.lt_of (t:=t) (x:=2*me) (by rw[hkm];decide);omega
 obtain ⟨m1,m2,_,_⟩:=ac8 hr.le hi hm hne;obtain ⟨y,hy,hyk⟩:=aiC hr hi hkm hm hne hs;obtain ⟨k1,k2,k3,k4⟩:=aqG (K:=K) ⟨m1,m2⟩ (List.length_pos_of_mem hy);have hwl:=(aax t i K).2;have hR:ad1 t K i me own info (aaR t K i seed secret info)=(secS secret (kM t i me),0):=by
  unfold ad1;obtain ⟨n',e⟩:=aec t secret info (whoN t i K) secret 0 (kM t i me) (by omega);show aa8 own info _ (stAt (makeS t secret info secret 0 (whoN t i K)) (kM t i me)).fors=_
  rw[e,k3];refine ajF (ab8 h2 _) _ _ (fun z hz hzk=>?_) ⟨y,hy,hyk⟩;obtain ⟨a,a1,a2,a3⟩:=aiB own z hzk;obtain ⟨_,b2,b3,_⟩:=hs.2.1 a a1;rw[a3] at b2 b3;rw[a2] at b3;exact ⟨b2,b3⟩
 have hE:adt t K (i:Int) (me:Int) own info (aaR t K i seed secret info)=0:=by
  unfold adt;rw[if_neg (by rw[Classical.not_not];exact (hr.there_iff i).2 hki),if_neg (by omega),Int.toNat_natCast,Int.toNat_natCast,if_neg (by rw[Classical.not_not];exact abS t K i seed secret info),hR,if_neg (by simp),if_pos];intro a ha;show _=(stAt (makeS t secret info secret 0 (whoN t i K)) (kM t i me+a)).pub
  rw[aeS t secret info _ _ _ _ (by omega)];unfold aaL;rw[adr]
 have hM:aet t (i:Int) seed secret=0:=by
  unfold aet acE;rw[if_pos ⟨h1,h2⟩,if_pos ((hr.there_iff i).2 hki)]
 have eT:adu t K (i:Int) (me:Int) own info (aaR t K i seed secret info)=⟨layP t (i:Int) (aaa t i K) (aaR t K i seed secret info),ownS (afW K i own) (secS secret (kM t i me)) ((aaa t i K).drop (kM t i me)),aaR t K i seed secret info,secS (secS secret (kM t i me)) ((ixS t i K).length - kM t i me)⟩:=by
  unfold adu;rw[if_pos hE,Int.toNat_natCast,Int.toNat_natCast,hR]
 have eM:abC t K (i:Int) seed secret info=⟨layP t (i:Int) (aaa t i K) (aaR t K i seed secret info),ownS [⟨2*(i:Int),seed⟩] secret (aaa t i K),aaR t K i seed secret info,adY secret (ixS t i K).length⟩:=by
  unfold abC;rw[if_pos hM,Int.toNat_natCast]
 refine ⟨hE,hR,?_,?_,?_⟩
 ·rw[eT,eM]
 ·rw[eT,eM]
  show secS (secS secret (kM t i me)) _=adY secret _
  unfold adY;rw[if_neg (by omega),← adr];congr 1
  omega
 ·rw[eT,eM]
def srt (l:List Sd):Prop:=l.Pairwise fun a b=>a.node<b.node
theorem aga:∀ (l:List Sd) (s x:Sd),x∈putS l s↔x=s∨x∈l
 | [],s,x=>by simp[putS]
 | a :: l,s,x=>by
  unfold putS
  split
  ·rw[List.mem_cons]
  ·rw[List.mem_cons,aga l s x,List.mem_cons]
   constructor
   ·rintro (h | h | h)
    ·exact .inr (.inl h)
    ·exact .inl h
    ·exact .inr (.inr h)
   ·rintro (h | h | h)
    ·exact .inr (.inl h)
    ·exact .inl h
    ·exact .inr (.inr h)
theorem alw:∀ (l:List Sd) (s:Sd),srt l→(∀ a∈l,a.node≠s.node)→srt (putS l s)
 | [],s,_,_=>List.pairwise_singleton _ _
 | a :: l,s,h,hn=>by
  have h1:=List.pairwise_cons.1 h
  unfold putS
  split
  ·next hlt=>
   refine List.pairwise_cons.2 ⟨fun b hb=>?_,h⟩
   rcases List.mem_cons.1 hb with e | e
   ·rw[e];exact hlt
   ·exact Int.lt_trans hlt (h1.1 b e)
  ·next hlt=>
   have hne:=hn a (by simp)
   refine List.pairwise_cons.2 ⟨fun b hb=>?_,alw l s h1.2 fun b hb=>hn b (by simp[hb])⟩
   rcases (aga l s b).1 hb with e | e
   ·rw[e];omega
   ·exact h1.1 b e
theorem aiD:∀ (l:List Sd),srt l→∀ s∈l,abe l s.node=s.seed
 | [],_,s,h=>by cases h
 | a :: l,hs,s,h=>by
  have h1:=List.pairwise_cons.1 hs
  unfold abe
  rcases List.mem_cons.1 h with e | e
  ·rw[e,if_pos rfl]
  ·have:=h1.1 s e
   rw[if_neg (by omega)]
   exact aiD l h1.2 s e
theorem agN:∀ (xs:List Nat) (own:List Sd) (s:List UInt8) (x:Sd),x∈ownS own s xs↔x∈own∨∃ a,a<xs.length∧x=⟨((xs.getD a 0:Nat):Int),aaL s a⟩
 | [],own,s,x=>by
  show x∈own↔_
  exact ⟨fun h=>.inl h,fun h=>by
   rcases h with h | ⟨a,ha,_⟩
   ·exact h
   ·exact absurd ha (Nat.not_lt_zero _)⟩
 | y :: xs,own,s,x=>by
  show x∈ownS (putS own ⟨(y:Int),derB s abR⟩) (derB s ab2) xs↔_
  rw[agN xs,aga]
  have hs:∀ a,aaL (derB s ab2) a=aaL s (a+1):=fun a=>by
   unfold aaL
   congr 1
   have:=adr s 1 a
   rw[Nat.add_comm] at this
   exact this.symm
  constructor
  ·rintro ((h | h) | ⟨a,ha,h⟩)
   ·exact .inr ⟨0,by simp,h⟩
   ·exact .inl h
   ·exact .inr ⟨a+1,by simpa using ha,by rw[h,hs];rfl⟩
  ·rintro (h | ⟨a,ha,h⟩)
   ·exact .inl (.inr h)
   ·cases a with
    | zero=>exact .inl (.inl h)
    | succ a=>exact .inr ⟨a,by simpa using ha,by rw[h,hs];rfl⟩
theorem akD:∀ (xs:List Nat) (own:List Sd) (s:List UInt8),xs.Nodup→srt own→(∀ a∈own,∀ x∈xs,a.node≠((x:Nat):Int))→srt (ownS own s xs)
 | [],own,s,_,h,_=>h
 | y :: xs,own,s,hn,h,hd=>by
  have h1:=List.nodup_cons.1 hn
  refine akD xs _ _ h1.2 (alw own _ h fun a ha=>hd a ha y (by simp)) fun a ha x hx=>?_
  rcases (aga _ _ _).1 ha with e | e
  ·rw[e]
   intro e2
   have:y=x:=Int.ofNat.inj e2
   subst this
   exact h1.1 hx
  ·exact hd a e x (by simp[hx])
theorem aeV {l:List Sd}{k:Nat}(h:k<l.length):sdAt l k∈l:=by
 unfold sdAt;rw[List.getD_eq_getElem?_getD,List.getElem?_eq_getElem h];exact List.getElem_mem h
theorem abu {l:List Sd}{k:Nat}(h:k<l.length):sdAt l k=l[k]:=by
 unfold sdAt;rw[List.getD_eq_getElem?_getD,List.getElem?_eq_getElem h];rfl
theorem ac9 {t:List Nod}{K:Nat}{me:Int}{own:List Sd}:abB t K me own ↔
  aar t me∧srt own∧(∀ s∈own,(s.node=2*me∨∃ x∈aah K 0 me.toNat,(x:Int)=s.node∧(ats t x).kind=2)∧s.seed.length=32∧pubB s.seed=(ats t s.node.toNat).pub) ∧
  (∀ x∈aah K 0 me.toNat,(ats t x).kind=2→me∉(ats t x).un→∃ s∈own,s.node=(x:Int))∧∃ s∈own,s.node=2*me:=by
 constructor
 ·rintro ⟨h1,h2,h3,h4⟩
  have hm:∀ s∈own,(s.node=2*me∨∃ x∈aah K 0 me.toNat,(x:Int)=s.node∧(ats t x).kind=2)∧s.seed.length=32∧pubB s.seed=(ats t s.node.toNat).pub:=fun s hs=>by
   obtain ⟨k,hk,rfl⟩:=List.getElem_of_mem hs;have:=h2 k hk;rw[abu hk] at this;exact ⟨this.1,this.2.1,this.2.2.1⟩
  have hadj:∀ d a,a+d+1<own.length→(sdAt own a).node<(sdAt own (a+d+1)).node:=fun d=>by
   induction d with
   | zero=>exact fun a ha=>by have:=(h2 (a+0+1) ha).2.2.2 (by omega);rwa [show a+0+1 - 1=a by omega] at this
   | succ d ih=>
    intro a ha;have g1:=ih a (by omega);have g2:=(h2 (a+(d+1)+1) ha).2.2.2 (by omega);rw[show a+(d+1)+1 - 1=a+d+1 by omega] at g2;exact Int.lt_trans g1 g2
  refine ⟨h1,List.pairwise_iff_getElem.2 fun a b ha hb hab=>?_,hm,fun x hx h5 h6=>?_,?_⟩
  ·have:=hadj (b - a - 1) a (by omega)
   rw[show a+(b - a - 1)+1=b by omega,abu ha,abu hb] at this;exact this
  ·obtain ⟨k,k1,k2,_⟩:=aiB own _ (h3 x hx h5 h6)
   exact ⟨_,aeV k1,k2⟩
  ·obtain ⟨k,k1,k2,_⟩:=aiB own _ h4
   exact ⟨_,aeV k1,k2⟩
 ·rintro ⟨h1,h2,h3,h4,h5⟩
  have hf:∀ s∈own,(abe own s.node).length≠0:=fun s hs=>by
   rw[aiD own h2 s hs,(h3 s hs).2.1];decide
  refine ⟨h1,fun k hk=>?_,fun x hx h6 h7=>?_,?_⟩
  ·obtain ⟨g1,g2,g3⟩:=h3 _ (aeV hk)
   refine ⟨g1,g2,g3,fun h0=>?_⟩;rw[abu hk,abu (show k - 1<own.length by omega)];exact List.pairwise_iff_getElem.1 h2 (k - 1) k (by omega) hk (by omega)
  ·obtain ⟨s,hs,e⟩:=h4 x hx h6 h7
   rw[← e];exact hf s hs
  ·obtain ⟨s,hs,e⟩:=h5
   rw[← e];exact hf s hs
theorem aiE {t:List Nod}{K i:Nat}(seed secret info:List UInt8){a:Nat}(ha:a<(aaa t i K).length):(stAt (aaR t K i seed secret info).step a).pub=pubB (aaL secret a):=
 aeS t secret info _ _ _ a (by have:=aax t i K;omega)
theorem amd {t:List Nod}{K i:Nat}{seed secret:List UInt8}(info:List UInt8)(hr:aab t K)(hT:aaZ t K)(hk:(ats t (2*i)).kind=1)(h1:seed.length=32)(h2:secret.length=32):
  abB (layP t (i:Int) (aaa t i K) (aaR t K i seed secret info)) K (i:Int) (ownS [⟨2*(i:Int),seed⟩] secret (aaa t i K)):=by
 obtain ⟨f1,f2,f3,f4,f5,f6,f7⟩:=afs hr hT hk (aaR t K i seed secret info) (aaM seed) (fun a ha=>by rw[aiE seed secret info ha];exact aaM _);rw[ac9,Int.toNat_natCast];have e2:(2*(i:Int)).toNat=2*i:=by omega
 have hodd:∀ x∈aaa t i K,x % 2=1:=fun x hx=>aba (aay hx)
 refine ⟨(f1.there_iff i).2 f5.1,akD _ _ _ (abo t i K) (List.pairwise_singleton _ _) (fun a ha x hx=>?_),fun s hs=>?_,fun x hx g1 _=>?_,?_⟩
 ·simp at ha
  rw[ha];have:=hodd x hx;show 2*(i:Int)≠(x:Int)
  omega
 ·rcases (agN _ _ _ _).1 hs with hs | ⟨a,ha,rfl⟩
  ·simp at hs
   subst hs;refine ⟨.inl rfl,h1,?_⟩;show pubB seed=_
   rw[e2,f5.2.2.1];rfl
  ·have hm:(aaa t i K).getD a 0∈aaa t i K:=by rw[List.getD_eq_getElem?_getD,List.getElem?_eq_getElem ha];exact List.getElem_mem ha
   refine ⟨.inr ⟨_,aay hm,rfl,(f6 a ha).1⟩,acP _ _,?_⟩;show pubB (aaL secret a)=_
   rw[Int.toNat_natCast,(f6 a ha).2.2.1];exact (aiE seed secret info ha).symm
 ·by_cases hm:x∈aaa t i K
  ·obtain ⟨a,ha,rfl⟩:=List.getElem_of_mem hm
   refine ⟨_,(agN _ _ _ _).2 (.inr ⟨a,ha,rfl⟩),?_⟩;rw[List.getD_eq_getElem?_getD,List.getElem?_eq_getElem ha];rfl
  ·have:=(f7 x hx hm).1
   rw[this] at g1;cases g1
 ·exact ⟨⟨2*(i:Int),seed⟩,(agN _ _ _ _).2 (.inl (List.mem_singleton.2 rfl)),rfl⟩
theorem an3 {K i k:Nat}(hK:K≤10)(hk:k<K)(hi:i<2 ^ K):nd k (sq (i / 2 ^ k))=if 2*i<nd (k+1) (i / 2 ^ (k+1)) then nd k (2*(i / 2 ^ (k+1))+1) else nd k (2*(i / 2 ^ (k+1))):=by
 have hq:i / 2 ^ (k+1)=i / 2 ^ k / 2:=by rw[Nat.pow_succ,Nat.div_div_eq_div_mul]
 obtain ⟨r,hr⟩:∃ r,i / 2 ^ k=r:=⟨_,rfl⟩;have hp:=aaC k;have h1:=Nat.div_mul_le_self i (2 ^ k);have h2:=Nat.lt_mul_div_succ i hp;rw[hr] at h1 h2 hq;rw[hq,hr];have e0:nd (k+1) (r / 2)=2 ^ (k+1+1)*(r / 2)+2 ^ (k+1) - 1:=rfl;rw[e0,aaj (k+1),aaj k];obtain ⟨P,hP⟩:∃ P,2 ^ k=P:=⟨_,rfl⟩;rw[hP] at h1 h2 hp ⊢;rw[Nat.mul_comm r P] at h1;rw[Nat.mul_add,Nat.mul_one] at h2;obtain ⟨q,hqq⟩:∃ q,r / 2=q:=⟨_,rfl⟩;rw[hqq];rcases (show r=2*q∨r=2*q+1 by omega) with e | e
 ·rw[e] at h1 h2 ⊢
  have e3:P*(2*q)=2*(P*q):=by rw[Nat.mul_left_comm]
  have e4:2*(2*P)*q=4*(P*q):=by rw[← Nat.mul_assoc,Nat.mul_assoc]
  rw[e3] at h1 h2;rw[e4,if_pos (by omega),apV]
 ·rw[e] at h1 h2 ⊢
  have e3:P*(2*q+1)=2*(P*q)+P:=by rw[Nat.mul_add,Nat.mul_one,Nat.mul_left_comm]
  have e4:2*(2*P)*q=4*(P*q):=by rw[← Nat.mul_assoc,Nat.mul_assoc]
  rw[e3] at h1 h2;rw[e4,if_neg (by omega),aq3]
theorem alx:∀ (l:List Sd) (s:Sd),(putS l s).length=l.length+1
 | [],s=>rfl
 | a :: l,s=>by
  unfold putS
  split
  ·rfl
  ·rw[List.length_cons,alx l s,List.length_cons]
theorem akE:∀ (xs:List Nat) (own:List Sd) (s:List UInt8),(ownS own s xs).length=own.length+xs.length
 | [],own,s=>rfl
 | y :: xs,own,s=>by
  show (ownS (putS own _) _ xs).length=_
  rw[akE xs,alx,List.length_cons]
  omega
theorem aly {t:List Nod}{K i a:Nat}(seed secret info:List UInt8)(ha:a<(ixS t i K).length):
  ∃ k,k<K∧0<(whoF t i k).length∧(ixS t i K).getD a 0=k∧(aaa t i K).getD a 0=nd (k+1) (i / 2 ^ (k+1))∧(whoN t i K).getD a []=whoF t i k∧(stAt (aaR t K i seed secret info).step a).fors.length=(whoF t i k).length:=by
 have hg:=List.getElem?_eq_getElem ha;obtain ⟨h1,h2⟩:=(afp t i K _).1 (List.getElem_mem ha);have hw:(whoN t i K).getD a []=whoF t i (ixS t i K)[a]:=by
  unfold whoN;rw[List.getD_eq_getElem?_getD,List.getElem?_map,hg];rfl
 refine ⟨_,h1,h2,by rw[List.getD_eq_getElem?_getD,hg];rfl,?_,hw,?_⟩
 ·unfold aaa
  rw[List.getD_eq_getElem?_getD,List.getElem?_map,hg];rfl
 ·rw[((abS t K i seed secret info).2.2 a (by rw[(aax t i K).2];exact ha)).1,hw]
def TS11 (p1 p2:List UInt8):List Nod:=[aag 1 p1,aan,aag 2 p2]
section
variable {p1 p2 : List UInt8}
theorem aiF (h1:p1.length=32):newE 1 p1=0∧newV 1 p1=[aag 1 p1]:=by
 have hm:mayP 1 p1:=⟨by decide,by decide,h1⟩;exact ⟨if_pos hm,if_pos hm⟩
theorem aiG (h1:p1.length=32)(h2:p2.length=32):addE [aag 1 p1] 2 p2=0∧addV [aag 1 p1] 2 p2=TS11 p1 p2∧addI [aag 1 p1] 2 p2=1:=by
 have hm:mayP 2 p2:=⟨by decide,by decide,h2⟩;have hE:addE [aag 1 p1] 2 p2=0:=by
  unfold addE;rw[if_pos hm];kernel_rfl
 unfold addV addI;rw[if_pos hE,if_pos hE];refine ⟨hE,?_,?_⟩
 ·kernel_rfl
 ·kernel_rfl
theorem akF (h1:p1.length=32):aab [aag 1 p1] 0:=(aiF h1).2▸(aab.new ⟨by decide,by decide,h1⟩)
theorem ame (h1:p1.length=32)(h2:p2.length=32):aab (TS11 p1 p2) 1:=by
 refine ⟨by omega,rfl,fun x hx=>?_,fun x y hxy hy e1 e2=>?_,⟨0,(show 0<3 by decide),rfl⟩⟩
 ·have hx3:x<3:=hx
  rcases (show x=0∨x=1∨x=2 by omega) with rfl | rfl | rfl
  ·exact .inr ⟨rfl,⟨(show (0:Int)≤1 by decide),(show (1:Int)≤65535 by decide),h1⟩,.inl rfl,fun _=>rfl,fun h=>(by cases h)⟩
  ·exact .inl rfl
  ·exact .inr ⟨rfl,⟨(show (0:Int)≤2 by decide),(show (2:Int)≤65535 by decide),h2⟩,.inl rfl,fun _=>rfl,fun h=>(by cases h)⟩
 ·have hy3:y<3:=hy
  rcases (show (x=0∧y=1)∨(x=0∧y=2)∨(x=1∧y=2) by omega) with ⟨rfl,rfl⟩ | ⟨rfl,rfl⟩ | ⟨rfl,rfl⟩
  ·cases e2
  ·exact (show (1:Int)≠2 by decide)
  ·cases e1
theorem amf (h1:p1.length=32)(h2:p2.length=32):adN (TS11 p1 p2) 40:=⟨(show 3≤40 by decide),fun n hn=>by
 unfold TS11 at hn;simp only[List.mem_cons,List.not_mem_nil,or_false] at hn;rcases hn with rfl | rfl | rfl
 ·exact ⟨by show p1.length≤40;omega,(show 0≤40 by decide),(show 0≤40 by decide)⟩
 ·exact ⟨by decide,by decide,by decide⟩
 ·exact ⟨by show p2.length≤40;omega,(show 0≤40 by decide),(show 0≤40 by decide)⟩⟩
theorem ah4:(ats (TS11 p1 p2) (2*0)).kind=1∧(ats (TS11 p1 p2) (2*1)).kind=1∧aaa (TS11 p1 p2) 0 1=[1]∧aaa (TS11 p1 p2) 1 1=[1]∧whoN (TS11 p1 p2) 0 1=[[2]]∧acE (TS11 p1 p2) 1=0∧aar (TS11 p1 p2) 0∧aar (TS11 p1 p2) 1:=
 ⟨rfl,rfl,by kernel_rfl,by kernel_rfl,by kernel_rfl,by kernel_rfl,⟨by decide,(show (0:Int)<((3+1) / 2:Nat) by decide),rfl⟩,⟨by decide,(show (1:Int)<((3+1) / 2:Nat) by decide),rfl⟩⟩
theorem amg {s:List UInt8}(hs:s.length=32)(hp:p2=pubB s):abB (TS11 p1 p2) 1 (1:Int) [⟨2,s⟩]∧¬abB (TS11 p1 p2) 1 (0:Int) [⟨2,s⟩]:=by
 refine ⟨ac9.2 ⟨(ah4 (p1:=p1) (p2:=p2)).2.2.2.2.2.2.2,List.pairwise_singleton _ _,fun x hx=>?_,fun x hx hk=>?_,⟨_,List.mem_singleton.2 rfl,rfl⟩⟩,fun h=>?_⟩
 ·rw[List.mem_singleton] at hx
  subst hx;exact ⟨.inl rfl,hs,hp.symm⟩
 ·have:x∈[1]:=hx
  rw[List.mem_singleton] at this;subst this;cases hk
 ·obtain ⟨_,_,_,_,⟨z,hz,e⟩⟩:=ac9.1 h
  rw[List.mem_singleton] at hz;subst hz;cases e
end
end Go.Proofs.YthmhklmkgkfcpaaGreatDoor
