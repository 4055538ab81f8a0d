import Derived.Test.YthmhklmkgkfcpaaGreatDoorU4
import Derived.Test.YthmhklmkgkfcpaaGreatDoorU11
import Derived.Test.YthmhklmkgkfcpaaGreatDoorU20
import Derived.RangeFuncBox
import Derived.Maps.AppendAt
import Derived.Deep.MidRow
set_option linter.unusedVariables false
set_option linter.unusedSimpArgs false
set_option maxHeartbeats 8000000
set_option maxRecDepth 100000
namespace Go.Proofs.YthmhklmkgkfcpaaGreatDoor
open Go.RowKit
def upd (f:Nat→Value)(i:Nat)(x:Value):Nat→Value:=fun j=>if j=i then x else f j
theorem aaE (f:Nat→Value)(i:Nat)(x:Value):upd f i x i=x:=if_pos rfl
theorem aas (f:Nat→Value){i j:Nat}(x:Value)(h:j≠i):upd f i x j=f j:=if_neg h
structure NX (e ei:TypeId)(w:World)(B:Nat)(v:Value)(t:List Nod)(P U H:Nat→Value)(S:Nat→Prop):Prop where
 mk ::
 row:∃ us:List Value,w.ownsRow B e 5 v t.length us∧(∀ z∈us,z.oneCell'=true)∧∀ i,i<t.length→∀ f,f<5→us[i*5+f]?=(nodC (ats t i) (P i) (U i) (H i))[f]?
 ins:∀ i,i<t.length→NIn w (ats t i) (P i) (U i) (H i)
 apv:∀ i,i<t.length→aap v (P i)∧aap v (U i)∧aap v (H i)
 own:∀ i,i<t.length→S i→OI ei w B (U i) (ats t i).un
 sep:∀ i,i<t.length→S i→∀ g,(U i).ownBlock=some g→v.ownBlock≠some g∧∀ j,j<t.length→aap (U i) (P j)∧aap (U i) (H j)∧(i≠j→aap (U i) (U j))
 inj:∀ i j,i<t.length→j<t.length→S i→S j→∀ g,(U i).ownBlock=some g→(U j).ownBlock=some g→i=j
theorem NX.kp {e ei:TypeId}{w w':World}{B:Nat}{v:Value}{t:List Nod}{P U H:Nat→Value}{S:Nat→Prop}(h:NX e ei w B v t P U H S)(k:Kp w w'):NX e ei w' B v t P U H S:=by
 obtain ⟨us,h1,h2,h3⟩:=h.row;exact ⟨⟨us,adf h1 k,h2,h3⟩,fun i hi=>(h.ins i hi).kp k,h.apv,fun i hi hs=>(h.own i hi hs).kp k,h.sep,h.inj⟩
theorem NX.no {e ei:TypeId}{w:World}{B:Nat}{v:Value}{t:List Nod}{P U H:Nat→Value}{S:Nat→Prop}(h:NX e ei w B v t P U H S):NO e w B v t:=by
 obtain ⟨us,h1,h2,h3⟩:=h.row;exact ⟨us,h1,h2,fun i hi=>⟨P i,U i,H i,h3 i hi,h.ins i hi,h.apv i hi⟩⟩
theorem NX.weak {e ei:TypeId}{w:World}{B:Nat}{v:Value}{t:List Nod}{P U H:Nat→Value}{S S':Nat→Prop}(h:NX e ei w B v t P U H S)(hs:∀ i,i<t.length→S' i→S i):NX e ei w B v t P U H S':=
 ⟨h.row,h.ins,h.apv,fun i hi hi'=>h.own i hi (hs i hi hi'),fun i hi hi'=>h.sep i hi (hs i hi hi'),fun i j hi hj hi' hj'=>h.inj i j hi hj (hs i hi hi') (hs j hj hj')⟩
theorem aa0 (w:World)(g o:Nat):∀ (vs:List Value) (o:Nat),w.grownBy (w.setCells g o vs) (some g):=by
 intro vs
 induction vs generalizing w with
 | nil=>exact fun o=>⟨rfl,rfl,rfl,Nat.le_refl _,fun _ _ _=>rfl⟩
 | cons v vs ih=>
  intro o
  have g2:=ih (w.setCell ⟨g,o,none⟩ v) (o+1)
  refine ⟨g2.os,g2.tape,g2.output,by show w.heap.size≤((w.setCell ⟨g,o,none⟩ v).setCells g (o+1) vs).heap.size;have:=g2.size;simpa using this,fun k hk hn=>(g2.block k (by simpa using hk) hn).trans ?_⟩
  exact Below.heap_setCell w _ _ k (fun e=>hn (by rw[e]))
theorem OI.grown9 {e:TypeId}{w w':World}{B:Nat}{v:Value}{l:List Int}{r:Option Nat}(h:OI e w B v l)(hg:w.grownBy w' r)(hn:∀ g,v.ownBlock=some g→r≠some g):OI e w' B v l:=by
 refine ⟨h.1,?_⟩;rcases h.2 with h1 | ⟨g,cap,cur,rfl,hb,hgg,rest⟩
 ·exact .inl h1
 ·exact .inr ⟨g,cap,cur,rfl,hb,(hg.block g (Array.getElem?_eq_some_iff.1 hgg).1 (fun e=>hn g rfl e.symm)).trans hgg,rest⟩
theorem NX.put {e ei:TypeId}{w w2:World}{B g N c:Nat}{t:List Nod}{P U H:Nat→Value}{S:Nat→Prop}(h:NX e ei w B (.slice (some ⟨g,0,none⟩) N c) t P U H S)
  (hrow:w2.heap[g]?=w.heap[g]?) (i:Nat) (hi:i<t.length) (m:Nod) (p u q:Value)
  (hns:∀ j,j<t.length→j≠i→NIn w2 (ats t j) (P j) (U j) (H j)) (S':Nat→Prop) (hS:∀ j,j<t.length→j≠i→S' j→S j)
  (hos:∀ j,j<t.length→j≠i→S' j→OI ei w2 B (U j) (ats t j).un)
  (hin:NIn w2 m p u q) (hap:aap (.slice (some ⟨g,0,none⟩) N c) p∧aap (.slice (some ⟨g,0,none⟩) N c) u∧aap (.slice (some ⟨g,0,none⟩) N c) q)
  (hoi:S' i→OI ei w2 B u m.un)
  (hsi:S' i→∀ gu,u.ownBlock=some gu→g≠gu∧aap u p∧aap u q∧∀ j,j<t.length→j≠i→aap u (P j)∧aap u (H j)∧aap u (U j))
  (hso:∀ j,j<t.length→j≠i→S' j→aap (U j) p∧aap (U j) q∧aap (U j) u)
  (hij:S' i→∀ gu,u.ownBlock=some gu→∀ j,j<t.length→j≠i→S' j→(U j).ownBlock≠some gu)
  (o:Nat) (vs:List Value) (hvl:o+vs.length≤5) (hone:∀ z∈vs,z.oneCell'=true)
  (hc:∀ f,f<5→(nodC m p u q)[f]?=if o≤f∧f<o+vs.length then vs[f - o]? else (nodC (ats t i) (P i) (U i) (H i))[f]?):
  NX e ei (w2.setCells g (i*5+o) vs) B (.slice (some ⟨g,0,none⟩) N c) (t.set i m) (upd P i p) (upd U i u) (upd H i q) S':=by
 obtain ⟨us,k1,k2,k3⟩:=h.row;have hn:t.length=N:=by
  rcases k1.2 with ⟨e,_⟩ | ⟨g',cap,cur,e,_⟩
  ·simp at e
  ·simp only[Value.slice.injEq] at e;exact e.2.1.symm
 subst hn;have hul:=k1.1;have k1':w2.ownsRow B e 5 (.slice (some ⟨g,0,none⟩) t.length c) t.length us:=by
  refine ⟨k1.1,?_⟩;rcases k1.2 with h1 | ⟨g',cap,cur,e1,hb,hg,rest⟩
  ·exact .inl h1
  ·simp only[Value.slice.injEq,Option.some.injEq,Addr.mk.injEq,and_true] at e1
   obtain ⟨rfl,_,rfl⟩:=e1;exact .inr ⟨g,c,cur,rfl,hb,hrow.trans hg,rest⟩
 have hmul:i*5+5≤t.length*5:=by omega
 obtain ⟨ys,y1,y2,y3,y4⟩:=abE vs (i*5+o) w2 us k1' (by rw[hul];omega);have hset:(t.set i m).length=t.length:=List.length_set ..;have gr:=aa0 w2 g 0 vs (i*5+o);have hat:∀ j,ats (t.set i m) j=if j=i then m else ats t j:=fun j=>abk t i m j hi
 have hav:∀ j,j<t.length→j≠i→aap (.slice (some ⟨g,0,none⟩) t.length c) (P j)∧aap (.slice (some ⟨g,0,none⟩) t.length c) (U j)∧aap (.slice (some ⟨g,0,none⟩) t.length c) (H j):=fun j hj _=>h.apv j hj
 refine ⟨⟨ys,by rw[hset];exact y1,fun z hz=>?_,fun j hj f hf=>?_⟩,fun j hj=>?_,fun j hj=>?_,fun j hj hs=>?_,fun j hj hs gj hgj=>?_,fun j k hj hk hs hs' gj h1 h2=>?_⟩
 ·obtain ⟨k,hk⟩:=List.getElem?_of_mem hz
  rw[y4] at hk;split at hk
  ·exact hone z (List.mem_of_getElem? hk)
  ·exact k2 z (List.mem_of_getElem? hk)
 ·rw[hset] at hj
  rw[y4,hat];by_cases e1:j=i
  ·subst e1
   rw[if_pos rfl,aaE,aaE,aaE,hc f hf];by_cases h5:o≤f∧f<o+vs.length
   ·rw[if_pos ⟨by omega,by omega⟩,if_pos h5,show j*5+f - (j*5+o)=f - o by omega]
   ·rw[if_neg (fun hh=>h5 ⟨by omega,by omega⟩),if_neg h5]
    exact k3 j hj f hf
  ·rw[if_neg e1,aas _ _ e1,aas _ _ e1,aas _ _ e1,if_neg (fun hh=>by omega)]
   exact k3 j hj f hf
 ·rw[hset] at hj
  rw[hat];by_cases e1:j=i
  ·subst e1
   rw[if_pos rfl,aaE,aaE,aaE];exact hin.grown (v:=.slice (some ⟨g,0,none⟩) t.length c) gr hap.1 hap.2.1 hap.2.2
  ·rw[if_neg e1,aas _ _ e1,aas _ _ e1,aas _ _ e1]
   obtain ⟨b1,b2,b3⟩:=hav j hj e1;exact (hns j hj e1).grown (v:=.slice (some ⟨g,0,none⟩) t.length c) gr b1 b2 b3
 ·rw[hset] at hj
  by_cases e1:j=i
  ·subst e1
   rw[aaE,aaE,aaE];exact hap
  ·rw[aas _ _ e1,aas _ _ e1,aas _ _ e1]
   exact hav j hj e1
 ·rw[hset] at hj
  rw[hat];by_cases e1:j=i
  ·subst e1
   rw[if_pos rfl,aaE];exact (hoi hs).grown9 gr (fun g' hg' e2=>(hsi hs g' hg').1 (by simpa using e2))
  ·rw[if_neg e1,aas _ _ e1]
   exact (hos j hj e1 hs).grown9 gr (fun g' hg' e2=>(h.sep j hj (hS j hj e1 hs) g' hg').1 e2)
 ·rw[hset] at hj
  by_cases e1:j=i
  ·subst e1
   rw[aaE] at hgj;obtain ⟨s1,s2,s3,s4⟩:=hsi hs gj hgj;refine ⟨fun e2=>s1 (by simpa [Value.ownBlock] using e2),fun k hk=>?_⟩;rw[hset] at hk;by_cases e2:k=j
   ·subst e2
    rw[aaE,aaE,aaE];exact ⟨s2,s3,fun hne=>absurd rfl hne⟩
   ·rw[aaE,aas _ _ e2,aas _ _ e2,aas _ _ e2]
    obtain ⟨a1,a2,a3⟩:=s4 k hk e2;exact ⟨a1,a2,fun _=>a3⟩
  ·rw[aas _ _ e1] at hgj
   obtain ⟨s1,s2⟩:=h.sep j hj (hS j hj e1 hs) gj hgj;refine ⟨s1,fun k hk=>?_⟩;rw[hset] at hk;rw[aas _ _ e1];by_cases e2:k=i
   ·subst e2
    rw[aaE,aaE,aaE];obtain ⟨a1,a2,a3⟩:=hso j hj e1 hs;exact ⟨a1,a2,fun _=>a3⟩
   ·rw[aas _ _ e2,aas _ _ e2,aas _ _ e2]
    exact s2 k hk
 ·rw[hset] at hj hk
  by_cases e1:j=i
  ·by_cases e2:k=i
   ·rw[e1,e2]
   ·subst e1
    rw[aaE] at h1;rw[aas _ _ e2] at h2;exact absurd h2 (hij hs gj h1 k hk e2 hs')
  ·rw[aas _ _ e1] at h1
   by_cases e2:k=i
   ·subst e2
    rw[aaE] at h2;exact absurd h1 (hij hs' gj h2 j hj e1 hs)
   ·rw[aas _ _ e2] at h2
    exact h.inj j k hj hk (hS j hj e1 hs) (hS k hk e2 hs') gj h1 h2
theorem acw {u x:Value}{C:Nat}(hx:∀ g,x.ownBlock=some g→C≤g)(hu:∀ g,u.ownBlock=some g→g<C):aap u x:=fun g hg y n c e h0 he=>by
 have h1:=hu g hg;have h2:=hx y.block (by rw[e];rfl);omega
theorem NX.len {e ei:TypeId}{w:World}{B g N c:Nat}{t:List Nod}{P U H:Nat→Value}{S:Nat→Prop}(h:NX e ei w B (.slice (some ⟨g,0,none⟩) N c) t P U H S):t.length=N:=by
 obtain ⟨us,k1,_⟩:=h.row;rcases k1.2 with ⟨e,_⟩ | ⟨g',cap,cur,e,_⟩
 ·simp at e
 ·simp only[Value.slice.injEq] at e;exact e.2.1.symm
theorem ap8 (t:List Nod)(i:Nat)(hi:i<t.length):t.set i (ats t i)=t:=by
 rw[aep hi];exact List.set_getElem_self hi
theorem NX.clonePub {e ei eb:TypeId}{w w3:World}{B C g N c k:Nat}{t:List Nod}{P U H:Nat→Value}{S:Nat→Prop}(h:NX e ei w B (.slice (some ⟨g,0,none⟩) N c) t P U H S)(K:Kp w w3)(hk:k<t.length)(hS:¬S k)
  {p':Value} (ho:Ow eb w3 C p' (ats t k).pub) (hC:w.heap.size≤C) (hg:g<w.heap.size):
  NX e ei (w3.setCells g (k*5+2) [p']) B (.slice (some ⟨g,0,none⟩) N c) t (upd P k p') (upd U k (U k)) (upd H k (H k)) S:=by
 have h3:=h.kp K;have ap:aap (.slice (some ⟨g,0,none⟩) N c) p':=acw (C:=C) ho.own_ge (fun g' hg'=>by cases hg';exact Nat.lt_of_lt_of_le hg hC);have:=h3.put (w2:=w3) rfl k hk (ats t k) p' (U k) (H k) (fun j hj _=>h3.ins j hj) S (fun j _ _ h=>h) (fun j hj _ hs=>h3.own j hj hs) ⟨ho.rd,(h3.ins k hk).un,(h3.ins k hk).hash⟩ ⟨ap,(h3.apv k hk).2.1,(h3.apv k hk).2.2⟩
  (fun hs=>absurd hs hS) (fun hs=>absurd hs hS) (fun j hj hjk hs=>?_) (fun hs=>absurd hs hS) 2 [p'] (by simp) (fun z hz=>by
   simp at hz;subst hz;obtain ⟨a,n,c,e⟩:=aac ho.rd;rw[e];rfl) (fun f hf=>by
   match f,hf with
   | 0,_=>rfl
   | 1,_=>rfl
   | 2,_=>rfl
   | 3,_=>rfl
   | 4,_=>rfl)
 ·rwa [ap8 t k hk] at this
 ·refine ⟨acw (C:=C) ho.own_ge (fun g' hg'=>?_),?_,?_⟩
  ·have:=((h.own j hj hs).lt g' hg').2
   omega
  ·exact fun g' hg'=>((h.sep j hj hs g' hg').2 k hk).2.1 g' hg'
  ·exact fun g' hg'=>((h.sep j hj hs g' hg').2 k hk).2.2 hjk g' hg'
theorem NX.cloneUn {e ei:TypeId}{w w3:World}{B C g N c k:Nat}{t:List Nod}{P U H:Nat→Value}{S S':Nat→Prop}(h:NX e ei w B (.slice (some ⟨g,0,none⟩) N c) t P U H S)(K:Kp w w3)(hk:k<t.length)(hS:∀ j,S' j→j≠k→S j)
  {u':Value} (ho:OI ei w3 C u' (ats t k).un) (hC:w.heap.size≤C) (hg:g<w.heap.size) (hB:B≤w.heap.size):
  NX e ei (w3.setCells g (k*5+3) [u']) B (.slice (some ⟨g,0,none⟩) N c) t (upd P k (P k)) (upd U k u') (upd H k (H k)) S':=by
 have h3:=h.kp K;have hu:=fun g' hg'=>(ho.lt g' hg').1
 have ap:aap (.slice (some ⟨g,0,none⟩) N c) u':=acw (C:=C) hu (fun g' hg'=>by cases hg';exact Nat.lt_of_lt_of_le hg hC);have hw:∀ g',u'.ownBlock=some g'→w.heap.size≤g':=fun g' hg'=>Nat.le_trans hC (hu g' hg')
 have:=h3.put (w2:=w3) rfl k hk (ats t k) (P k) u' (H k) (fun j hj _=>h3.ins j hj) S' (fun j _ hjk hs=>hS j hs hjk) (fun j hj hjk hs=>h3.own j hj (hS j hs hjk)) ⟨(h3.ins k hk).pub,ho.ri,(h3.ins k hk).hash⟩ ⟨(h3.apv k hk).1,ap,(h3.apv k hk).2.2⟩
  (fun _=>ho.mono (Nat.le_trans hB hC)) (fun _ gu hgu=>⟨fun e=>by have:=hw gu hgu;omega,(h.ins k hk).pub.apart hw,(h.ins k hk).hash.apart hw,fun j hj _=>⟨(h.ins j hj).pub.apart hw,(h.ins j hj).hash.apart hw,(h.ins j hj).un.apart hw⟩⟩)
  (fun j hj hjk hs=>?_) (fun _ gu hgu j hj hjk hs e=>by have h1:=((h.own j hj (hS j hs hjk)).lt gu e).2;have h2:=hw gu hgu;omega) 3 [u'] (by simp) (fun z hz=>by
   simp at hz;subst hz;obtain ⟨a,n,c,e⟩:=ho.ri.sl;rw[e];rfl) (fun f hf=>by
   match f,hf with
   | 0,_=>rfl
   | 1,_=>rfl
   | 2,_=>rfl
   | 3,_=>rfl
   | 4,_=>rfl)
 ·rwa [ap8 t k hk] at this
 ·have hs':=hS j hs hjk
  refine ⟨?_,?_,acw (C:=C) hu (fun g' hg'=>?_)⟩
  ·exact fun g' hg'=>((h.sep j hj hs' g' hg').2 k hk).1 g' hg'
  ·exact fun g' hg'=>((h.sep j hj hs' g' hg').2 k hk).2.1 g' hg'
  ·have:=((h.own j hj hs').lt g' hg').2
   omega
theorem NX.cloneHash {e ei eb:TypeId}{w w3:World}{B C g N c k:Nat}{t:List Nod}{P U H:Nat→Value}{S:Nat→Prop}(h:NX e ei w B (.slice (some ⟨g,0,none⟩) N c) t P U H S)(K:Kp w w3)(hk:k<t.length)
  {p':Value} (ho:Ow eb w3 C p' (ats t k).hash) (hC:w.heap.size≤C) (hg:g<w.heap.size):
  NX e ei (w3.setCells g (k*5+4) [p']) B (.slice (some ⟨g,0,none⟩) N c) t (upd P k (P k)) (upd U k (U k)) (upd H k p') S:=by
 have h3:=h.kp K;have ap:aap (.slice (some ⟨g,0,none⟩) N c) p':=acw (C:=C) ho.own_ge (fun g' hg'=>by cases hg';exact Nat.lt_of_lt_of_le hg hC);have:=h3.put (w2:=w3) rfl k hk (ats t k) (P k) (U k) p' (fun j hj _=>h3.ins j hj) S (fun j _ _ h=>h) (fun j hj _ hs=>h3.own j hj hs) ⟨(h3.ins k hk).pub,(h3.ins k hk).un,ho.rd⟩ ⟨(h3.apv k hk).1,(h3.apv k hk).2.1,ap⟩
  (fun hs=>h3.own k hk hs) (fun hs gu hgu=>?_) (fun j hj hjk hs=>?_) (fun hs gu hgu j hj hjk hs' e=>hjk (h.inj j k hj hk hs' hs gu e hgu)) 4 [p'] (by simp) (fun z hz=>by
   simp at hz;subst hz;obtain ⟨a,n,c,e⟩:=aac ho.rd;rw[e];rfl) (fun f hf=>by
   match f,hf with
   | 0,_=>rfl
   | 1,_=>rfl
   | 2,_=>rfl
   | 3,_=>rfl
   | 4,_=>rfl)
 ·rwa [ap8 t k hk] at this
 ·obtain ⟨s1,s2⟩:=h.sep k hk hs gu hgu
  refine ⟨fun e=>s1 (by rw[e];rfl),(s2 k hk).1,acw (C:=C) ho.own_ge (fun g' hg'=>?_),fun j hj hjk=>⟨(s2 j hj).1,(s2 j hj).2.1,(s2 j hj).2.2 (fun e=>hjk e.symm)⟩⟩;have:=((h.own k hk hs).lt g' hg').2;omega
 ·refine ⟨?_,acw (C:=C) ho.own_ge (fun g' hg'=>?_),?_⟩
  ·exact fun g' hg'=>((h.sep j hj hs g' hg').2 k hk).1 g' hg'
  ·have:=((h.own j hj hs).lt g' hg').2
   omega
  ·exact fun g' hg'=>((h.sep j hj hs g' hg').2 k hk).2.2 hjk g' hg'
theorem Bx.grown {w w':World}{b:Nat}{T:TypeId}{cs:Array Value}{r:Option Nat}(h:Bx w b T cs)(hg:w.grownBy w' r)(hn:some b≠r):Bx w' b T cs:=(hg.block b (Array.getElem?_eq_some_iff.1 h).1 hn).trans h
theorem NX.there {e ei:TypeId}{w:World}{B g N c:Nat}{t:List Nod}{P U H:Nat→Value}{S:Nat→Prop}(h:NX e ei w B (.slice (some ⟨g,0,none⟩) N c) t P U H S)(i:Nat)(hi:i<t.length)(f:Nat)(hf:f<5):w.there g (i*5+f) 1:=fun j hj=>by
 have:=h.no.there i hi (f+j) (by omega);rwa [← Nat.add_assoc] at this
def Free (Z:Nat→Prop)(v:Value):Prop:=∀ x n c,v=.slice (some x) n c→0<n→¬Z x.block
theorem Free.mono {Z Z':Nat→Prop}{v:Value}(h:Free Z v)(hz:∀ k,Z' k→Z k):Free Z' v:=fun x n c e h0 hk=>h x n c e h0 (hz _ hk)
theorem Free.nil (Z:Nat→Prop)(a:Option Addr)(c:Nat):Free Z (.slice a 0 c):=fun x n c' e h0=>by
 simp only[Value.slice.injEq] at e;omega
theorem Rd.inside {w:World}{v:Value}{l:List UInt8}(h:Rd w v l):∀ x n c,v=.slice (some x) n c→0<n→x.block<w.heap.size:=fun x n c e h0=>by
 obtain ⟨a',c',e',h1,h2,h3,h4⟩:=h;rw[e] at e';simp only[Value.slice.injEq] at e';obtain ⟨rfl,rfl,rfl⟩:=e';have hb:=World.block_lt_of_cell? w _ (h4 x rfl 0 h0);rwa [aaJ] at hb
theorem RI.inside {w:World}{v:Value}{l:List Int}(h:RI w v l):∀ x n c,v=.slice (some x) n c→0<n→x.block<w.heap.size:=fun x n c e h0=>by
 obtain ⟨a',c',e',h1,h2,h3,h4⟩:=h;rw[e] at e';simp only[Value.slice.injEq] at e';obtain ⟨rfl,rfl,rfl⟩:=e';have hb:=World.block_lt_of_cell? w _ (h4 x rfl 0 h0);rwa [aaJ] at hb
theorem Rd.stepF {A B:World}{Y:Nat→Prop}{v:Value}{l:List UInt8}(h:Rd A v l)(hs:Step Y A B)(hf:Free Y v):Rd B v l:=by
 obtain ⟨a,c,e,h1,h2,h3,h4⟩:=h;subst e;refine ⟨a,c,rfl,h1,h2,h3,fun x hx i hi=>?_⟩;have hc:=h4 x hx i hi;subst hx;exact hs.cell hc (by rw[aaJ];exact hf x _ c rfl (by omega))
theorem RI.stepF {A B:World}{Y:Nat→Prop}{v:Value}{l:List Int}(h:RI A v l)(hs:Step Y A B)(hf:Free Y v):RI B v l:=by
 obtain ⟨a,c,e,h1,h2,h3,h4⟩:=h;subst e;refine ⟨a,c,rfl,h1,h2,h3,fun x hx i hi=>?_⟩;have hc:=h4 x hx i hi;subst hx;exact hs.cell hc (by rw[aaJ];exact hf x _ c rfl (by first | omega | (rw[List.length_map] at hi ⊢;omega)))
theorem Free.grew {A B:World}{Y Y':Nat→Prop}{v:Value}(h:Free Y v)(hin:∀ x n c,v=.slice (some x) n c→0<n→x.block<A.heap.size)(hg:Grew Y Y' A B):Free Y' v:=fun x n c e h0 hk=>by
 rcases hg _ hk with h1 | h1
 ·exact h x n c e h0 h1
 ·have:=hin x n c e h0
  omega
def aih (Z:Nat→Prop)(N:Nat)(P U H:Nat→Value):Prop:=∀ j,j<N→Free Z (P j)∧Free Z (U j)∧Free Z (H j)
theorem NX.stepF {e ei:TypeId}{A B:World}{Y:Nat→Prop}{C g n c:Nat}{t:List Nod}{P U H:Nat→Value}(h:NX e ei A C (.slice (some ⟨g,0,none⟩) n c) t P U H (fun _=>False))(hs:Step Y A B)(hg:¬Y g)(hf:aih Y t.length P U H):
  NX e ei B C (.slice (some ⟨g,0,none⟩) n c) t P U H (fun _=>False):=by
 obtain ⟨us,h1,h2,h3⟩:=h.row;refine ⟨⟨us,⟨h1.1,?_⟩,h2,h3⟩,fun i hi=>?_,h.apv,fun i hi hs=>hs.elim,fun i hi hs=>hs.elim,fun i j hi hj hs=>hs.elim⟩
 ·rcases h1.2 with hn | ⟨g',cap,cur,e1,hb,hgg,rest⟩
  ·exact .inl hn
  ·simp only[Value.slice.injEq,Option.some.injEq,Addr.mk.injEq,and_true] at e1
   obtain ⟨rfl,_,rfl⟩:=e1;exact .inr ⟨g,c,cur,by simp_all,hb,(hs.block g (Array.getElem?_eq_some_iff.1 hgg).1 hg).trans hgg,rest⟩
 ·obtain ⟨f1,f2,f3⟩:=hf i hi
  have hi:=h.ins i hi;exact ⟨hi.pub.stepF hs f1,hi.un.stepF hs f2,hi.hash.stepF hs f3⟩
theorem aih.grew {e ei:TypeId}{A B:World}{Y Y':Nat→Prop}{C:Nat}{v:Value}{t:List Nod}{P U H:Nat→Value}{S:Nat→Prop}(h:NX e ei A C v t P U H S)(hf:aih Y t.length P U H)(hg:Grew Y Y' A B):aih Y' t.length P U H:=fun j hj=>by
 obtain ⟨f1,f2,f3⟩:=hf j hj;have hi:=h.ins j hj;exact ⟨f1.grew hi.pub.inside hg,f2.grew hi.un.inside hg,f3.grew hi.hash.inside hg⟩
theorem NX.rehash {e ei:TypeId}{A:World}{C g n c k:Nat}{t:List Nod}{P U H:Nat→Value}(h:NX e ei A C (.slice (some ⟨g,0,none⟩) n c) t P U H (fun _=>False))(hk:k<t.length){r:Value}{l:List UInt8}(hr:Rd A r l)(hrg:Free (fun k=>k=g) r):
  NX e ei (A.setCell ⟨g,k*5+4,none⟩ r) C (.slice (some ⟨g,0,none⟩) n c) (t.set k ⟨(ats t k).kind,(ats t k).name,(ats t k).pub,(ats t k).un,l⟩) (upd P k (P k)) (upd U k (U k)) (upd H k r) (fun _=>False):=by
 have hin:=h.ins k hk;have hap:=h.apv k hk;exact h.put (w2:=A) rfl k hk ⟨(ats t k).kind,(ats t k).name,(ats t k).pub,(ats t k).un,l⟩ (P k) (U k) r (fun j hj _=>h.ins j hj) (fun _=>False) (fun j _ _ h=>h.elim) (fun j _ _ h=>h.elim) ⟨hin.pub,hin.un,hr⟩
  ⟨hap.1,hap.2.1,fun g' hg' x n' c' e h0 he=>hrg x n' c' e h0 (by cases hg';exact he)⟩ (fun h=>h.elim) (fun h=>h.elim) (fun j _ _ h=>h.elim) (fun h=>h.elim) 4 [r] (by simp) (fun z hz=>by
   simp at hz;subst hz;obtain ⟨a,c,e,_⟩:=hr.shape;rw[e];rfl) (fun f hf=>by
   match f,hf with
   | 0,_=>rfl
   | 1,_=>rfl
   | 2,_=>rfl
   | 3,_=>rfl
   | 4,_=>rfl)
theorem aih.upd {Z:Nat→Prop}{N k:Nat}{P U H:Nat→Value}(h:aih Z N P U H){r:Value}(hr:Free Z r)(hk:k<N):aih Z N (upd P k (P k)) (upd U k (U k)) (upd H k r):=fun j hj=>by
 by_cases e:j=k
 ·subst e
  rw[aaE,aaE,aaE];exact ⟨(h j hj).1,(h j hj).2.1,hr⟩
 ·rw[aas _ _ e,aas _ _ e,aas _ _ e]
  exact h j hj
def abz (w:World)(g:Nat):Prop:=∃ cs t fr,w.heap[g]?=some (.cells cs t fr)
theorem abz.lt {w:World}{g:Nat}(h:abz w g):g<w.heap.size:=by
 obtain ⟨_,_,_,h⟩:=h;exact (Array.getElem?_eq_some_iff.1 h).1
theorem abz.of_cell {w:World}{a:Addr}{v:Value}(h:w.cell? a=some v):abz w a.block:=by
 unfold World.cell? at h;split at h
 ·next c t fr e=>exact ⟨c,t,fr,e⟩
 ·cases h
theorem aii {w:World}{g:Nat}{es:Array MapEntry}{c:Nat}(h:w.heap[g]?=some (.map es c)):¬abz w g:=by
 rintro ⟨_,_,_,e⟩;rw[h] at e;cases e
theorem Rd.solid {w:World}{v:Value}{l:List UInt8}(h:Rd w v l):∀ x n c,v=.slice (some x) n c→0<n→abz w x.block:=fun x n c e h0=>by
 obtain ⟨a',c',e',h1,h2,h3,h4⟩:=h;rw[e] at e';simp only[Value.slice.injEq] at e';obtain ⟨rfl,rfl,rfl⟩:=e';have hb:=abz.of_cell (h4 x rfl 0 h0);rwa [aaJ] at hb
theorem RI.solid {w:World}{v:Value}{l:List Int}(h:RI w v l):∀ x n c,v=.slice (some x) n c→0<n→abz w x.block:=fun x n c e h0=>by
 obtain ⟨a',c',e',h1,h2,h3,h4⟩:=h;rw[e] at e';simp only[Value.slice.injEq] at e';obtain ⟨rfl,rfl,rfl⟩:=e';have hb:=abz.of_cell (h4 x rfl 0 h0);rwa [aaJ] at hb
theorem Free.solid {Z Z':Nat→Prop}{w:World}{v:Value}(h:Free Z v)(hs:∀ x n c,v=.slice (some x) n c→0<n→abz w x.block)(hz:∀ g,Z' g→Z g∨¬abz w g):Free Z' v:=fun x n c e h0 hk=>
 (hz _ hk).elim (h x n c e h0) fun hn=>hn (hs x n c e h0)
structure Sh (α:Type) where
 mk ::
 k:Nat
 pos:0<k
 R:(Nat→Prop)→World→List Value→α→Prop
 len:∀ {Z w vs x},R Z w vs x→vs.length=k
 one:∀ {Z w vs x},R Z w vs x→∀ z∈vs,z.oneCell'=true
 solid:∀ {Z Z' w vs x},R Z w vs x→(∀ g,Z' g→Z g∨¬abz w g)→R Z' w vs x
 step:∀ {Z w w' vs x},R Z w vs x→Step Z w w'→R Z w' vs x
theorem Sh.mono {α:Type}(S:Sh α){Z Z':Nat→Prop}{w:World}{vs:List Value}{x:α}(h:S.R Z w vs x)(hz:∀ g,Z' g→Z g):S.R Z' w vs x:=S.solid h fun g hg=>.inl (hz g hg)
theorem Sh.fresh {α:Type}(S:Sh α){Z:Nat→Prop}{w:World}{vs:List Value}{x:α}(h:S.R Z w vs x):S.R (fun g=>Z g∨w.heap.size≤g) w vs x:=
 S.solid h fun g hg=>hg.imp id fun hg hs=>by have:=hs.lt;omega
def noB:Nat→Prop:=fun _=>False
theorem Kp.step {w w':World}(h:Kp w w'):Step noB w w':=⟨h.os,h.tape,h.output,h.size,fun k hk _=>h.block k hk⟩
theorem Sh.kp {α:Type}(S:Sh α){w w':World}{vs:List Value}{x:α}(h:S.R noB w vs x)(k:Kp w w'):S.R noB w' vs x:=S.step h k.step
def SE {α:Type}(S:Sh α)(Z:Nat→Prop)(w:World)(v:Value)(t:List α):Prop:=
 ∃ a c,v=.slice a t.length c∧t.length≤c∧c≤maxLen∧(a=none→c=0) ∧
  (0<t.length→∃ b off,a=some ⟨b,off,none⟩∧b<w.heap.size∧∀ i x,t[i]?=some x→∃ vs,w.rangeAt b (off+i*S.k) vs∧S.R Z w vs x)
def SZ {α:Type}(S:Sh α)(Z:Nat→Prop)(w:World)(v:Value)(t:List α):Prop:=SE S Z w v t∧Free Z v
def arM {α:Type}(S:Sh α)(w:World)(v:Value)(t:List α):Prop:=SE S noB w v t
section
variable {α : Type} {S : Sh α}
theorem Free.none (v:Value):Free noB v:=fun _ _ _ _ _ h=>h
theorem arM.sz {w:World}{v:Value}{t:List α}(h:arM S w v t):SZ S noB w v t:=⟨h,Free.none v⟩
theorem SE.shape {Z:Nat→Prop}{w:World}{v:Value}{t:List α}(h:SE S Z w v t):∃ a c,v=.slice a t.length c∧t.length≤c∧c≤maxLen:=by
 obtain ⟨a,c,e,h1,h2,_⟩:=h;exact ⟨a,c,e,h1,h2⟩
theorem SE.sl {Z:Nat→Prop}{w:World}{v:Value}{t:List α}(h:SE S Z w v t):∃ a n c,v=.slice a n c:=by
 obtain ⟨a,c,e,_⟩:=h;exact ⟨_,_,_,e⟩
theorem SE.nil (Z:Nat→Prop)(w:World):SE S Z w (.slice none 0 0) []:=⟨none,0,rfl,Nat.le_refl _,Nat.zero_le _,fun _=>rfl,fun h=>absurd h (by simp)⟩
theorem arM.nil (w:World):arM S w (.slice none 0 0) []:=SE.nil _ w
theorem SE.at {Z:Nat→Prop}{w:World}{a:Option Addr}{n c:Nat}{t:List α}(h:SE S Z w (.slice a n c) t)(hk:0<n):
  ∃ b off,a=some ⟨b,off,none⟩∧b<w.heap.size∧∀ i x,t[i]?=some x→∃ vs,w.rangeAt b (off+i*S.k) vs∧S.R Z w vs x:=by
 obtain ⟨a',c',e,h1,h2,h3,h4⟩:=h;simp only[Value.slice.injEq] at e;obtain ⟨rfl,rfl,rfl⟩:=e;exact h4 hk
theorem SE.mono {Z Z':Nat→Prop}{w:World}{v:Value}{t:List α}(h:SE S Z w v t)(hz:∀ g,Z' g→Z g):SE S Z' w v t:=by
 obtain ⟨a,c,e,h1,h2,h3,h4⟩:=h;refine ⟨a,c,e,h1,h2,h3,fun h0=>?_⟩;obtain ⟨b,off,ha,hb,hi⟩:=h4 h0;refine ⟨b,off,ha,hb,fun i x hx=>?_⟩;obtain ⟨vs,r1,r2⟩:=hi i x hx;exact ⟨vs,r1,S.mono r2 hz⟩
theorem SE.solidly {Z Z':Nat→Prop}{w:World}{v:Value}{t:List α}(h:SE S Z w v t)(hz:∀ g,Z' g→Z g∨¬abz w g):SE S Z' w v t:=by
 obtain ⟨a,c,e,h1,h2,h3,h4⟩:=h;refine ⟨a,c,e,h1,h2,h3,fun h0=>?_⟩;obtain ⟨b,off,ha,hb,hi⟩:=h4 h0;refine ⟨b,off,ha,hb,fun i x hx=>?_⟩;obtain ⟨vs,r1,r2⟩:=hi i x hx;exact ⟨vs,r1,S.solid r2 hz⟩
theorem SZ.mono {Z Z':Nat→Prop}{w:World}{v:Value}{t:List α}(h:SZ S Z w v t)(hz:∀ g,Z' g→Z g):SZ S Z' w v t:=⟨h.1.mono hz,h.2.mono hz⟩
theorem SE.inside {Z:Nat→Prop}{w:World}{v:Value}{t:List α}(h:SE S Z w v t):∀ x n c,v=.slice (some x) n c→0<n→x.block<w.heap.size:=fun x n c e h0=>by
 obtain ⟨a',c',e',h1,h2,h3,h4⟩:=h;rw[e] at e';simp only[Value.slice.injEq] at e';obtain ⟨rfl,rfl,rfl⟩:=e';obtain ⟨b,off,ha,hb,_⟩:=h4 h0;simp only[Option.some.injEq] at ha;subst ha;exact hb
theorem SE.sol {Z:Nat→Prop}{w:World}{v:Value}{t:List α}(h:SE S Z w v t):∀ x n c,v=.slice (some x) n c→0<n→abz w x.block:=fun x n c e h0=>by
 obtain ⟨a',c',e',h1,h2,h3,h4⟩:=h;rw[e] at e';simp only[Value.slice.injEq] at e';obtain ⟨rfl,rfl,rfl⟩:=e';obtain ⟨b,off,ha,hb,hi⟩:=h4 h0;simp only[Option.some.injEq] at ha;subst ha;obtain ⟨vs,r1,r2⟩:=hi 0 _ (List.getElem?_eq_getElem h0);have hl:=S.len r2;have hp:=S.pos;have:=abz.of_cell (r1 0 _ (List.getElem?_eq_getElem (by omega)));exact this
theorem SZ.solidly {Z Z':Nat→Prop}{w:World}{v:Value}{t:List α}(h:SZ S Z w v t)(hz:∀ g,Z' g→Z g∨¬abz w g):SZ S Z' w v t:=⟨h.1.solidly hz,h.2.solid h.1.sol hz⟩
theorem SZ.step {Z:Nat→Prop}{w w':World}{v:Value}{t:List α}(h:SZ S Z w v t)(hs:Step Z w w'):SZ S Z w' v t:=by
 obtain ⟨⟨a,c,e,h1,h2,h3,h4⟩,hf⟩:=h;refine ⟨⟨a,c,e,h1,h2,h3,fun h0=>?_⟩,hf⟩;obtain ⟨b,off,ha,hb,hi⟩:=h4 h0;refine ⟨b,off,ha,Nat.lt_of_lt_of_le hb hs.size,fun i x hx=>?_⟩;obtain ⟨vs,r1,r2⟩:=hi i x hx;subst ha;have hnz:¬Z b:=hf _ _ _ e h0;exact ⟨vs,fun j z hj=>hs.cell (r1 j z hj) hnz,S.step r2 hs⟩
theorem arM.kp {w w':World}{v:Value}{t:List α}(h:arM S w v t)(k:Kp w w'):arM S w' v t:=(SZ.step (Z:=noB) ⟨h,Free.none v⟩ k.step).1
theorem SE.pre {Z:Nat→Prop}{w:World}{a:Option Addr}{n c:Nat}{t:List α}(h:SE S Z w (.slice a n c) t)(k:Nat)(hk:k≤n):SE S Z w (.slice a k c) (t.take k):=by
 obtain ⟨a',c',e,h1,h2,h3,h4⟩:=h;simp only[Value.slice.injEq] at e;obtain ⟨rfl,rfl,rfl⟩:=e;have hl:(t.take k).length=k:=by rw[List.length_take];omega
 refine ⟨a,c,by rw[hl],by omega,h2,h3,fun h0=>?_⟩;rw[hl] at h0;obtain ⟨b,off,ha,hb,hi⟩:=h4 (by omega);refine ⟨b,off,ha,hb,fun i x hx=>hi i x ?_⟩;rw[List.getElem?_take] at hx;split at hx
 ·exact hx
 ·cases hx
def GZ (S:Sh α)(e:TypeId)(Z:Nat→Prop)(w:World)(B:Nat)(v:Value)(t:List α):Prop:=
 ∃ us:List Value,w.ownsRow B e S.k v t.length us∧(∀ z∈us,z.oneCell'=true) ∧
  ∀ i x,t[i]?=some x→∃ vs,(∀ f,f<S.k→us[i*S.k+f]?=vs[f]?)∧S.R (fun g=>some g=v.ownBlock∨Z g) w vs x
section
variable {Z : Nat → Prop}
theorem GZ.lt {e:TypeId}{w:World}{B:Nat}{v:Value}{t:List α}(h:GZ S e Z w B v t):∀ k,v.ownBlock=some k→B≤k∧k<w.heap.size:=by
 obtain ⟨us,h1,_⟩:=h;exact fun k hk=>World.ownsRow.lt h1 k hk
theorem GZ.kp {e:TypeId}{w w':World}{B:Nat}{v:Value}{t:List α}(h:GZ S e Z w B v t)(k:Kp w w'):GZ S e Z w' B v t:=by
 obtain ⟨us,h1,h2,h3⟩:=h;refine ⟨us,adf h1 k,h2,fun i x hx=>?_⟩;obtain ⟨vs,a1,a2⟩:=h3 i x hx;exact ⟨vs,a1,S.step a2 ⟨k.os,k.tape,k.output,k.size,fun b hb _=>k.block b hb⟩⟩
theorem GZ.mono {e:TypeId}{w:World}{B C:Nat}{v:Value}{t:List α}(h:GZ S e Z w B v t)(hb:C≤B):GZ S e Z w C v t:=by
 obtain ⟨us,h1,h2,h3⟩:=h;refine ⟨us,⟨h1.1,?_⟩,h2,h3⟩;rcases h1.2 with hn | ⟨g,cap,cur,e1,h1,rest⟩
 ·exact .inl hn
 ·exact .inr ⟨g,cap,cur,e1,by omega,rest⟩
theorem GZ.solidly {e:TypeId}{w:World}{B:Nat}{v:Value}{t:List α}{Z':Nat→Prop}(h:GZ S e Z w B v t)(hz:∀ g,Z' g→some g=v.ownBlock∨Z g∨¬abz w g):GZ S e Z' w B v t:=by
 obtain ⟨us,h1,h2,h3⟩:=h;refine ⟨us,h1,h2,fun i x hx=>?_⟩;obtain ⟨vs,a1,a2⟩:=h3 i x hx;exact ⟨vs,a1,S.solid a2 fun g hg=>hg.elim (fun h=>.inl (.inl h)) fun h=>(hz g h).elim (fun h=>.inl (.inl h)) fun h=>h.imp .inr id⟩
theorem GZ.step {e:TypeId}{w w':World}{B:Nat}{v:Value}{t:List α}{Y:Nat→Prop}(h:GZ S e Z w B v t)(hs:Step Y w w')(hY:∀ g,Y g→Z g∨¬abz w g)(hv:∀ g,v.ownBlock=some g→¬Y g):GZ S e Z w' B v t:=by
 have h':GZ S e (fun g=>Z g∨Y g) w B v t:=h.solidly fun g hg=>hg.elim (fun h=>.inr (.inl h)) fun h=>(hY g h).elim (fun h=>.inr (.inl h)) fun h=>.inr (.inr h)
 obtain ⟨us,h1,h2,h3⟩:=h';refine ⟨us,⟨h1.1,?_⟩,h2,fun i x hx=>?_⟩
 ·rcases h1.2 with hn | ⟨g,cap,cur,e1,hb,hgg,rest⟩
  ·exact .inl hn
  ·exact .inr ⟨g,cap,cur,e1,hb,(hs.block g (Array.getElem?_eq_some_iff.1 hgg).1 (hv g (by rw[e1];rfl))).trans hgg,rest⟩
 ·obtain ⟨vs,a1,a2⟩:=h3 i x hx
  exact ⟨vs,a1,S.mono (S.step a2 (hs.mono fun g hg=>.inr (.inr hg))) fun g hg=>hg.imp id .inl⟩
theorem GZ.form {e:TypeId}{w:World}{B:Nat}{v:Value}{t:List α}(h:GZ S e Z w B v t)(h0:0<t.length):
  ∃ g c,v=.slice (some ⟨g,0,none⟩) t.length c∧B≤g∧g<w.heap.size∧t.length≤c∧c≤maxLen ∧
   ∀ i x,t[i]?=some x→∃ vs,w.rangeAt g (i*S.k) vs∧S.R (fun b=>some b=v.ownBlock∨Z b) w vs x:=by
 obtain ⟨us,h1,h2,h3⟩:=h;have hlt:=fun k hk=>World.ownsRow.lt h1 k hk
 rcases id h1.2 with ⟨_,hn⟩ | ⟨g,cap,cur,rfl,hb,hg,hn,hm,hs,ht⟩
 ·omega
 ·refine ⟨g,cap,rfl,hb,(hlt g rfl).2,hn,hm,fun i x hx=>?_⟩
  obtain ⟨vs,a1,a2⟩:=h3 i x hx;have hil:i<t.length:=(List.getElem?_eq_some_iff.1 hx).1;refine ⟨vs,fun j z hj=>?_,a2⟩;have hjl:j<S.k:=by rw[← S.len a2];exact (List.getElem?_eq_some_iff.1 hj).1
  have hm2:i*S.k+j<t.length*S.k:=by
   have h5:(i+1)*S.k≤t.length*S.k:=Nat.mul_le_mul_right _ hil;rw[Nat.add_mul,Nat.one_mul] at h5;omega
  rw[h1.cellAt (i*S.k+j) hm2,a1 j hjl];exact hj
theorem GZ.gl {e:TypeId}{w:World}{B:Nat}{v:Value}{t:List α}(h:GZ S e Z w B v t):arM S w v t:=by
 by_cases h0:0<t.length
 ·obtain ⟨g,c,rfl,hb,hg,h1,h2,h3⟩:=h.form h0
  refine ⟨_,c,rfl,h1,h2,fun h=>(by cases h),fun _=>⟨g,0,rfl,hg,fun i x hx=>?_⟩⟩;rw[Nat.zero_add];obtain ⟨vs,r1,r2⟩:=h3 i x hx;exact ⟨vs,r1,S.mono r2 fun _ h=>h.elim⟩
 ·have ht:t=[]:=List.eq_nil_of_length_eq_zero (by omega)
  subst ht;obtain ⟨us,h1,_⟩:=h;rcases h1.2 with ⟨rfl,_⟩ | ⟨g,cap,cur,rfl,hb,hg,hn,hm,hs,ht⟩
  ·exact arM.nil w
  ·exact ⟨_,cap,rfl,hn,hm,fun h=>(by cases h),fun h=>absurd h (by simp)⟩
theorem GZ.nil (e:TypeId)(w:World)(B:Nat):GZ S e Z w B (.slice none 0 0) []:=⟨[],World.ownsRow_nil _ _ _ _,fun z hz=>by simp at hz,fun i x hx=>by simp at hx⟩
theorem GZ.empty (e:TypeId)(w:World):GZ S e Z (w.alloc (.cells #[] e)) w.heap.size (.slice (some ⟨w.heap.size,0,none⟩) 0 0) []:=
 ⟨[],World.ownsRow_lit w #[] 0 (Nat.le_refl _) (by unfold maxLen;omega) (by simp),fun z hz=>by simp at hz,fun i x hx=>by simp at hx⟩
theorem GZ.len {e:TypeId}{w:World}{B g n c:Nat}{t:List α}(h:GZ S e Z w B (.slice (some ⟨g,0,none⟩) n c) t):t.length=n:=by
 obtain ⟨us,h1,_⟩:=h;rcases h1.2 with ⟨e,_⟩ | ⟨g',cap,cur,e,_⟩
 ·simp at e
 ·simp only[Value.slice.injEq] at e;exact e.2.1.symm
theorem GZ.there {e:TypeId}{w:World}{B g c n:Nat}{t:List α}(h:GZ S e Z w B (.slice (some ⟨g,0,none⟩) n c) t)(i:Nat)(hi:i<t.length):w.there g (i*S.k) S.k:=by
 have hn:=h.len;obtain ⟨us,h1,h2,h3⟩:=h;subst hn;intro j hj;refine ⟨?_,h1.frozenAt _⟩;have h5:(i+1)*S.k≤t.length*S.k:=Nat.mul_le_mul_right _ hi;rw[Nat.add_mul,Nat.one_mul] at h5;rw[h1.cellAt (i*S.k+j) (by omega),List.getElem?_eq_getElem (by rw[h1.1];omega)];rfl
theorem GZ.stored {e:TypeId}{w:World}{B g c n:Nat}{t:List α}(h:GZ S e Z w B (.slice (some ⟨g,0,none⟩) n c) t)(i:Nat)(hi:i<t.length)(m:α)(vs:List Value)(hin:S.R (fun b=>b=g∨Z b) w vs m):
  GZ S e Z (w.setCells g (i*S.k) vs) B (.slice (some ⟨g,0,none⟩) n c) (t.set i m)∧w.grownBy (w.setCells g (i*S.k) vs) (some g):=by
 have hn:=h.len;obtain ⟨us,k1,k2,k3⟩:=h;subst hn;have hul:=k1.1;have ek:=S.len hin;have h5:(i+1)*S.k≤t.length*S.k:=Nat.mul_le_mul_right _ hi;rw[Nat.add_mul,Nat.one_mul] at h5;obtain ⟨ys,y1,y2,y3,y4⟩:=abE vs (i*S.k) w us k1 (by rw[hul,ek];exact h5);have st:Step (fun b=>some b=(Value.slice (some ⟨g,0,none⟩) t.length c).ownBlock∨Z b) w (w.setCells g (i*S.k) vs):=⟨y2.os,y2.tape,y2.output,y2.size,fun k hk hn=>y2.block k hk (fun e=>hn (.inl e))⟩;refine ⟨⟨ys,by rw[List.length_set];exact y1,fun z hz=>?_,fun k x hx=>?_⟩,y2⟩
 ·obtain ⟨k,hk⟩:=List.getElem?_of_mem hz
  rw[y4] at hk;split at hk
  ·exact S.one hin z (List.mem_of_getElem? hk)
  ·exact k2 z (List.mem_of_getElem? hk)
 ·rw[List.getElem?_set] at hx
  by_cases e1:i=k
  ·subst e1
   rw[if_pos rfl,if_pos hi] at hx;cases hx;refine ⟨vs,fun f hf=>?_,S.step (S.mono hin fun b hb=>hb.imp (fun e=>by cases e;rfl) id) st⟩;rw[y4,ek,if_pos ⟨by omega,by omega⟩,Nat.add_sub_cancel_left]
  ·rw[if_neg e1] at hx
   obtain ⟨vs',a1,a2⟩:=k3 k x hx;refine ⟨vs',fun f hf=>?_,S.step a2 st⟩;rw[y4,ek,if_neg,a1 f hf];rintro ⟨q1,q2⟩;rcases Nat.lt_or_gt_of_ne e1 with h6 | h6
   ·have:=Nat.mul_le_mul_right S.k (show i+1≤k from h6)
    rw[Nat.add_mul,Nat.one_mul] at this;omega
   ·have:=Nat.mul_le_mul_right S.k (show k+1≤i from h6)
    rw[Nat.add_mul,Nat.one_mul] at this;omega
end
structure SK (P:Program)(t e:TypeId)(k:Nat):Prop where
 mk ::
 ht:P.underlying t=some (.slice e)
 hi:∃ i z,P.info? e=some i∧i.zero=some z∧i.size=k∧i.bytes≤128∧z.cells.size=k
theorem SK.mk' {P:Program}{t e:TypeId}{z:Value}{b k:Nat}(ht:P.underlying t=some (.slice e))(h:(P.info? e).map (fun i=>(i.zero,i.size,i.bytes))=some (some z,k,b))(hb:b≤128)(hz:z.cells.size=k):SK P t e k:=by
 obtain ⟨i,hi,hz0,hz1,hz2⟩:=info_parts h;exact ⟨ht,i,z,hi,hz0,hz1,by omega,hz⟩
theorem SE.flat {Z:Nat→Prop}{w:World}{b off:Nat}{t:List α}(h:∀ i x,t[i]?=some x→∃ vs,w.rangeAt b (off+i*S.k) vs∧S.R Z w vs x):
  ∃ us:List Value,us.length=t.length*S.k∧(∀ z∈us,z.oneCell'=true)∧(∀ j z,us[j]?=some z→w.cell? ⟨b,off+j,none⟩=some z) ∧
   ∀ i x,t[i]?=some x→∃ vs,(∀ f,f<S.k→us[i*S.k+f]?=vs[f]?)∧S.R Z w vs x:=by
 have key:∀ n,n≤t.length→∃ us:List Value,us.length=n*S.k∧(∀ z∈us,z.oneCell'=true)∧(∀ j z,us[j]?=some z→w.cell? ⟨b,off+j,none⟩=some z) ∧
   ∀ i x,i<n→t[i]?=some x→∃ vs,(∀ f,f<S.k→us[i*S.k+f]?=vs[f]?)∧S.R Z w vs x:=by
  intro n;induction n with
  | zero=>exact fun _=>⟨[],by simp,fun z hz=>by simp at hz,fun j z hj=>by simp at hj,fun i x hi=>by omega⟩
  | succ n ih=>
   intro hn;obtain ⟨us,l1,l2,l3,l4⟩:=ih (by omega);obtain ⟨vs,hc,hr⟩:=h n t[n] (List.getElem?_eq_getElem (by omega));have ek:=S.len hr;refine ⟨us++vs,by rw[List.length_append,l1,ek,Nat.add_mul,Nat.one_mul],fun z hz=>?_,fun j z hj=>?_,fun i x hi hx=>?_⟩
   ·rcases List.mem_append.1 hz with hz | hz
    ·exact l2 z hz
    ·exact S.one hr z hz
   ·by_cases hjl:j<us.length
    ·rw[List.getElem?_append_left hjl] at hj
     exact l3 j z hj
    ·rw[List.getElem?_append_right (by omega)] at hj
     have:=hc _ z hj;rw[l1] at this hjl;rwa [show off+n*S.k+(j - n*S.k)=off+j by omega] at this
   ·by_cases hin2:i<n
    ·obtain ⟨vs',a1,a2⟩:=l4 i x hin2 hx
     refine ⟨vs',fun f hf=>?_,a2⟩;have h5:(i+1)*S.k≤n*S.k:=Nat.mul_le_mul_right _ hin2;rw[Nat.add_mul,Nat.one_mul] at h5;rw[List.getElem?_append_left (by rw[l1];omega)];exact a1 f hf
    ·have:i=n:=by omega
     subst this;rw[List.getElem?_eq_getElem (by omega)] at hx;cases hx;refine ⟨vs,fun f hf=>?_,hr⟩;rw[List.getElem?_append_right (by rw[l1];omega),l1,Nat.add_sub_cancel_left]
 obtain ⟨us,l1,l2,l3,l4⟩:=key t.length (Nat.le_refl _);exact ⟨us,l1,l2,l3,fun i x hx=>l4 i x (List.getElem?_eq_some_iff.1 hx).1 hx⟩
theorem Sh.moved {Z:Nat→Prop}{w w':World}{v v':Value}{vs:List Value}{x:α}(h:S.R (fun g=>some g=v.ownBlock∨Z g) w vs x)(hg:w.grownBy w' v.ownBlock)(hk:v'.ownBlock=v.ownBlock∨v'.ownBlock=some w.heap.size):
  S.R (fun g=>some g=v'.ownBlock∨Z g) w' vs x:=by
 have h1:=S.fresh h;have h2:S.R (fun g=>(some g=v.ownBlock∨Z g)∨w.heap.size≤g) w' vs x:=S.step h1 ⟨hg.os,hg.tape,hg.output,hg.size,fun k hk hn=>hg.block k hk (fun e=>hn (.inl (.inl e)))⟩;refine S.mono h2 fun g e=>?_
 rcases e with e | e
 ·rcases hk with hk | hk
  ·exact .inl (.inl (by rw[← hk];exact e))
  ·rw[hk] at e
   simp only[Option.some.injEq] at e;exact .inr (by omega)
 ·exact .inl (.inr e)
theorem aa5 {Z:Nat→Prop}{P:Program}{w:World}{t e:TypeId}(K:SK P t e S.k){ops:Array Oper}{rest:List Oper}{o:Oper}{a:Act}{Q:Exit→Act→World→Prop}(hgd:o.guard=none)(s x:Operand)
  (ho:o.op=.call { callee:=.builtin .append,args:=#[s,x],argTypes:=#[t,t] })
  (B:Nat) (v:Value) (ts:List α) (hs:a.eval s=v) (hown:GZ S e Z w B v ts) (u:Value) (ms:List α) (hx:a.eval x=u) (hu:SE S (fun g=>some g=v.ownBlock∨Z g) w u ms) (hlen:ts.length+ms.length≤1000000) (hbase:B≤w.heap.size)
  (h:∀ v' w',GZ S e Z w' B v' (ts++ms)→w.grownBy w' v.ownBlock→(v'.ownBlock=v.ownBlock∨v'.ownBlock=some w.heap.size)→wpList P ops Q rest (a.put o.dst v') w'):wpList P ops Q (o :: rest) a w:=by
 obtain ⟨i,z,hi,hz,hsize,hby,hzc⟩:=K.hi;obtain ⟨us,h1,h2,h3⟩:=hown;obtain ⟨ad,c,rfl,hc,hm,hnil,hcell⟩:=hu;have hbt:(ts.length+ms.length)*i.bytes≤140737488355328:=by
  have:=Nat.mul_le_mul hlen hby;omega
 by_cases h0:0<ms.length
 ·obtain ⟨b,off,rfl,_,hn⟩:=hcell h0
  obtain ⟨news,n1,n2,n3,n4⟩:=SE.flat hn;refine wpList_append_own_at w hgd s x t ho B e i z S.k i.bytes K.ht hi hz hsize rfl hzc S.pos v ts.length us hs h1 ⟨b,off,none⟩ ms.length c news hx n1 (fun j y hj=>?_) n2 (by unfold maxLen;omega) hbt hbase
   (fun v' w' k1 k2 _ k4=>h v' w' ⟨us++news,by rw[List.length_append];exact k1,fun y hy=>?_,fun j y hj=>?_⟩ k2 k4)
  ·rw[Addr.add_mid]
   exact n3 j y hj
  ·rcases List.mem_append.1 hy with hy | hy
   ·exact h2 y hy
   ·exact n2 y hy
  ·have hul:=h1.1
   by_cases hjl:j<ts.length
   ·rw[List.getElem?_append_left hjl] at hj
    obtain ⟨vs,a1,a2⟩:=h3 j y hj;refine ⟨vs,fun f hf=>?_,Sh.moved a2 k2 k4⟩;have h5:(j+1)*S.k≤ts.length*S.k:=Nat.mul_le_mul_right _ hjl;rw[Nat.add_mul,Nat.one_mul] at h5;rw[List.getElem?_append_left (by rw[hul];omega)];exact a1 f hf
   ·rw[List.getElem?_append_right (by omega)] at hj
    obtain ⟨vs,a1,a2⟩:=n4 (j - ts.length) y hj;refine ⟨vs,fun f hf=>?_,Sh.moved a2 k2 k4⟩;have h5:ts.length*S.k≤j*S.k:=Nat.mul_le_mul_right _ (by omega);rw[List.getElem?_append_right (by rw[hul];omega),hul,← a1 f hf,Nat.sub_mul];congr 1
    omega
 ·have hm0:ms=[]:=List.eq_nil_of_length_eq_zero (by omega)
  subst hm0;cases ad with
  | none=>
   have hc0:=hnil rfl;subst hc0;refine wpList_append_own_none hgd s x t ho B e i S.k K.ht hi v ts.length us hs h1 hx ?_;exact h v w ⟨us,by simpa using h1,h2,by simpa using h3⟩ ⟨rfl,rfl,rfl,Nat.le_refl _,fun _ _ _=>rfl⟩ (.inl rfl)
  | some ad=>
   refine wpList_append_own_at w hgd s x t ho B e i z S.k i.bytes K.ht hi hz hsize rfl hzc S.pos v ts.length us hs h1 ad 0 c [] hx (by simp) (fun j y hj=>by simp at hj) (fun y hy=>by simp at hy) (by unfold maxLen;omega) (by simpa using hbt) hbase
    (fun v' w' k1 k2 _ k4=>h v' w' ⟨us,by simpa using k1,h2,fun j y hj=>?_⟩ k2 k4)
   rw[List.append_nil] at hj;obtain ⟨vs,a1,a2⟩:=h3 j y hj;exact ⟨vs,a1,Sh.moved a2 k2 k4⟩
end
end Go.Proofs.YthmhklmkgkfcpaaGreatDoor
