/- A row of nodes of the call's own whose Un lie, each, in a row of the call's own, apart from all else. Nothing of a dump. -/
import Derived.Test.YtobldbodafaajaaGreatDoorTreePl9
import Derived.Test.YtobldbodafaajaaGreatDoorRefTree9
import Derived.Test.YtobldbodafaajaaGreatDoorMathCode9
import Derived.Test.YtobldbodafaajaaGreatDoorByt9
import Derived.Test.YtobldbodafaajaaGreatDoorShelf9
import Derived.Sort.OwnSortedInts
import Derived.Lib.OwnBridge
import Derived.Test.YtobldbodafaajaaGreatDoorIter9
import Derived.RangeFuncBox
set_option linter.unusedVariables false
set_option linter.unusedSimpArgs false
namespace Go.Proofs.YtobldbodafaajaaGreatDoor
open Go.RowKit

def upd (f : Nat → Value) (i : Nat) (x : Value) : Nat → Value := fun j => if j = i then x else f j
theorem upd_same (f : Nat → Value) (i : Nat) (x : Value) : upd f i x i = x := if_pos rfl
theorem upd_other (f : Nat → Value) {i j : Nat} (x : Value) (h : j ≠ i) : upd f i x j = f j := if_neg h
/-- The row v, of block g, of the nodes t whose slices are P, U, H; of those in S the Un are rows of the call's own, apart. -/
structure NX (e ei : TypeId) (w : World) (B : Nat) (v : Value) (t : List Nod) (P U H : Nat → Value) (S : Nat → Prop) : Prop where
  mk ::
  row : ∃ us : List Value, w.ownsRow B e 5 v t.length us ∧ (∀ z ∈ us, z.oneCell' = true) ∧ ∀ i, i < t.length → ∀ f, f < 5 → us[i * 5 + f]? = (nodC (ats t i) (P i) (U i) (H i))[f]?
  ins : ∀ i, i < t.length → NIn w (ats t i) (P i) (U i) (H i)
  apv : ∀ i, i < t.length → Apart v (P i) ∧ Apart v (U i) ∧ Apart v (H i)
  own : ∀ i, i < t.length → S i → OI ei w B (U i) (ats t i).un
  sep : ∀ i, i < t.length → S i → ∀ g, (U i).ownBlock = some g → v.ownBlock ≠ some g ∧ ∀ j, j < t.length → Apart (U i) (P j) ∧ Apart (U i) (H j) ∧ (i ≠ j → Apart (U i) (U j))
  inj : ∀ i j, i < t.length → j < t.length → S i → S j → ∀ g, (U i).ownBlock = some g → (U j).ownBlock = some g → i = j
theorem NX.kp {e ei : TypeId} {w w' : World} {B : Nat} {v : Value} {t : List Nod} {P U H : Nat → Value} {S : Nat → Prop} (h : NX e ei w B v t P U H S) (k : Kp w w') : NX e ei w' B v t P U H S := by
  obtain ⟨us, h1, h2, h3⟩ := h.row
  exact ⟨⟨us, ownsRow_kp9 h1 k, h2, h3⟩, fun i hi => (h.ins i hi).kp k, h.apv, fun i hi hs => (h.own i hi hs).kp k, h.sep, h.inj⟩
theorem NX.no {e ei : TypeId} {w : World} {B : Nat} {v : Value} {t : List Nod} {P U H : Nat → Value} {S : Nat → Prop} (h : NX e ei w B v t P U H S) : NO e w B v t := by
  obtain ⟨us, h1, h2, h3⟩ := h.row
  exact ⟨us, h1, h2, fun i hi => ⟨P i, U i, H i, h3 i hi, h.ins i hi, h.apv i hi⟩⟩
theorem NX.weak {e ei : TypeId} {w : World} {B : Nat} {v : Value} {t : List Nod} {P U H : Nat → Value} {S S' : Nat → Prop} (h : NX e ei w B v t P U H S) (hs : ∀ i, i < t.length → S' i → S i) : NX e ei w B v t P U H S' :=
  ⟨h.row, h.ins, h.apv, fun i hi hi' => h.own i hi (hs i hi hi'), fun i hi hi' => h.sep i hi (hs i hi hi'), fun i j hi hj hi' hj' => h.inj i j hi hj (hs i hi hi') (hs j hj hj')⟩
theorem grown_set9 (w : World) (g o : Nat) : ∀ (vs : List Value) (o : Nat), w.grownBy (w.setCells g o vs) (some g) := by
  intro vs
  induction vs generalizing w with
  | nil => exact fun o => ⟨rfl, rfl, rfl, Nat.le_refl _, fun _ _ _ => rfl⟩
  | cons v vs ih =>
    intro o
    have g2 := ih (w.setCell ⟨g, o, none⟩ v) (o + 1)
    refine ⟨g2.os, g2.tape, g2.output, by show w.heap.size ≤ ((w.setCell ⟨g, o, none⟩ v).setCells g (o + 1) vs).heap.size; have := g2.size; simpa using this, fun k hk hn => (g2.block k (by simpa using hk) hn).trans ?_⟩
    exact Below.heap_setCell w _ _ k (fun e => hn (by rw [e]))
theorem OI.grown9 {e : TypeId} {w w' : World} {B : Nat} {v : Value} {l : List Int} {r : Option Nat} (h : OI e w B v l) (hg : w.grownBy w' r) (hn : ∀ g, v.ownBlock = some g → r ≠ some g) : OI e w' B v l := by
  refine ⟨h.1, ?_⟩
  rcases h.2 with h1 | ⟨g, cap, cur, rfl, hb, hgg, rest⟩
  · exact .inl h1
  · exact .inr ⟨g, cap, cur, rfl, hb, (hg.block g (Array.getElem?_eq_some_iff.1 hgg).1 (fun e => hn g rfl e.symm)).trans hgg, rest⟩
/-- Cells of one node are written, in a world in which all else stands. -/
theorem NX.put {e ei : TypeId} {w w2 : World} {B g N c : Nat} {t : List Nod} {P U H : Nat → Value} {S : Nat → Prop} (h : NX e ei w B (.slice (some ⟨g, 0, none⟩) N c) t P U H S)
    (hrow : w2.heap[g]? = w.heap[g]?) (i : Nat) (hi : i < t.length) (m : Nod) (p u q : Value)
    (hns : ∀ j, j < t.length → j ≠ i → NIn w2 (ats t j) (P j) (U j) (H j)) (S' : Nat → Prop) (hS : ∀ j, j < t.length → j ≠ i → S' j → S j)
    (hos : ∀ j, j < t.length → j ≠ i → S' j → OI ei w2 B (U j) (ats t j).un)
    (hin : NIn w2 m p u q) (hap : Apart (.slice (some ⟨g, 0, none⟩) N c) p ∧ Apart (.slice (some ⟨g, 0, none⟩) N c) u ∧ Apart (.slice (some ⟨g, 0, none⟩) N c) q)
    (hoi : S' i → OI ei w2 B u m.un)
    (hsi : S' i → ∀ gu, u.ownBlock = some gu → g ≠ gu ∧ Apart u p ∧ Apart u q ∧ ∀ j, j < t.length → j ≠ i → Apart u (P j) ∧ Apart u (H j) ∧ Apart u (U j))
    (hso : ∀ j, j < t.length → j ≠ i → S' j → Apart (U j) p ∧ Apart (U j) q ∧ Apart (U j) u)
    (hij : S' i → ∀ gu, u.ownBlock = some gu → ∀ j, j < t.length → j ≠ i → S' j → (U j).ownBlock ≠ some gu)
    (o : Nat) (vs : List Value) (hvl : o + vs.length ≤ 5) (hone : ∀ z ∈ vs, z.oneCell' = true)
    (hc : ∀ f, f < 5 → (nodC m p u q)[f]? = if o ≤ f ∧ f < o + vs.length then vs[f - o]? else (nodC (ats t i) (P i) (U i) (H i))[f]?) :
    NX e ei (w2.setCells g (i * 5 + o) vs) B (.slice (some ⟨g, 0, none⟩) N c) (t.set i m) (upd P i p) (upd U i u) (upd H i q) S' := by
  obtain ⟨us, k1, k2, k3⟩ := h.row
  have hn : t.length = N := by
    rcases k1.2 with ⟨e, _⟩ | ⟨g', cap, cur, e, _⟩
    · simp at e
    · simp only [Value.slice.injEq] at e; exact e.2.1.symm
  subst hn
  have hul := k1.1
  have k1' : w2.ownsRow B e 5 (.slice (some ⟨g, 0, none⟩) t.length c) t.length us := by
    refine ⟨k1.1, ?_⟩
    rcases k1.2 with h1 | ⟨g', cap, cur, e1, hb, hg, rest⟩
    · exact .inl h1
    · simp only [Value.slice.injEq, Option.some.injEq, Addr.mk.injEq, and_true] at e1
      obtain ⟨rfl, _, rfl⟩ := e1
      exact .inr ⟨g, c, cur, rfl, hb, hrow.trans hg, rest⟩
  have hmul : i * 5 + 5 ≤ t.length * 5 := by omega
  obtain ⟨ys, y1, y2, y3, y4⟩ := ownsRow_setCells vs (i * 5 + o) w2 us k1' (by rw [hul]; omega)
  have hset : (t.set i m).length = t.length := List.length_set ..
  have gr := grown_set9 w2 g 0 vs (i * 5 + o)
  have hat : ∀ j, ats (t.set i m) j = if j = i then m else ats t j := fun j => ats_set t i m j hi
  have hav : ∀ j, j < t.length → j ≠ i → Apart (.slice (some ⟨g, 0, none⟩) t.length c) (P j) ∧ Apart (.slice (some ⟨g, 0, none⟩) t.length c) (U j) ∧ Apart (.slice (some ⟨g, 0, none⟩) t.length c) (H j) := fun j hj _ => h.apv j hj
  refine ⟨⟨ys, by rw [hset]; exact y1, fun z hz => ?_, fun j hj f hf => ?_⟩, fun j hj => ?_, fun j hj => ?_, fun j hj hs => ?_, fun j hj hs gj hgj => ?_, fun j k hj hk hs hs' gj h1 h2 => ?_⟩
  · obtain ⟨k, hk⟩ := List.getElem?_of_mem hz
    rw [y4] at hk
    split at hk
    · exact hone z (List.mem_of_getElem? hk)
    · exact k2 z (List.mem_of_getElem? hk)
  · rw [hset] at hj
    rw [y4, hat]
    by_cases e1 : j = i
    · subst e1
      rw [if_pos rfl, upd_same, upd_same, upd_same, hc f hf]
      by_cases h5 : o ≤ f ∧ f < o + vs.length
      · rw [if_pos ⟨by omega, by omega⟩, if_pos h5, show j * 5 + f - (j * 5 + o) = f - o by omega]
      · rw [if_neg (fun hh => h5 ⟨by omega, by omega⟩), if_neg h5]
        exact k3 j hj f hf
    · rw [if_neg e1, upd_other _ _ e1, upd_other _ _ e1, upd_other _ _ e1, if_neg (fun hh => by omega)]
      exact k3 j hj f hf
  · rw [hset] at hj
    rw [hat]
    by_cases e1 : j = i
    · subst e1
      rw [if_pos rfl, upd_same, upd_same, upd_same]
      exact hin.grown (v := .slice (some ⟨g, 0, none⟩) t.length c) gr hap.1 hap.2.1 hap.2.2
    · rw [if_neg e1, upd_other _ _ e1, upd_other _ _ e1, upd_other _ _ e1]
      obtain ⟨b1, b2, b3⟩ := hav j hj e1
      exact (hns j hj e1).grown (v := .slice (some ⟨g, 0, none⟩) t.length c) gr b1 b2 b3
  · rw [hset] at hj
    by_cases e1 : j = i
    · subst e1
      rw [upd_same, upd_same, upd_same]
      exact hap
    · rw [upd_other _ _ e1, upd_other _ _ e1, upd_other _ _ e1]
      exact hav j hj e1
  · rw [hset] at hj
    rw [hat]
    by_cases e1 : j = i
    · subst e1
      rw [if_pos rfl, upd_same]
      exact (hoi hs).grown9 gr (fun g' hg' e2 => (hsi hs g' hg').1 (by simpa using e2))
    · rw [if_neg e1, upd_other _ _ e1]
      exact (hos j hj e1 hs).grown9 gr (fun g' hg' e2 => (h.sep j hj (hS j hj e1 hs) g' hg').1 e2)
  · rw [hset] at hj
    by_cases e1 : j = i
    · subst e1
      rw [upd_same] at hgj
      obtain ⟨s1, s2, s3, s4⟩ := hsi hs gj hgj
      refine ⟨fun e2 => s1 (by simpa [Value.ownBlock] using e2), fun k hk => ?_⟩
      rw [hset] at hk
      by_cases e2 : k = j
      · subst e2
        rw [upd_same, upd_same, upd_same]
        exact ⟨s2, s3, fun hne => absurd rfl hne⟩
      · rw [upd_same, upd_other _ _ e2, upd_other _ _ e2, upd_other _ _ e2]
        obtain ⟨a1, a2, a3⟩ := s4 k hk e2
        exact ⟨a1, a2, fun _ => a3⟩
    · rw [upd_other _ _ e1] at hgj
      obtain ⟨s1, s2⟩ := h.sep j hj (hS j hj e1 hs) gj hgj
      refine ⟨s1, fun k hk => ?_⟩
      rw [hset] at hk
      rw [upd_other _ _ e1]
      by_cases e2 : k = i
      · subst e2
        rw [upd_same, upd_same, upd_same]
        obtain ⟨a1, a2, a3⟩ := hso j hj e1 hs
        exact ⟨a1, a2, fun _ => a3⟩
      · rw [upd_other _ _ e2, upd_other _ _ e2, upd_other _ _ e2]
        exact s2 k hk
  · rw [hset] at hj hk
    by_cases e1 : j = i
    · by_cases e2 : k = i
      · rw [e1, e2]
      · subst e1
        rw [upd_same] at h1
        rw [upd_other _ _ e2] at h2
        exact absurd h2 (hij hs gj h1 k hk e2 hs')
    · rw [upd_other _ _ e1] at h1
      by_cases e2 : k = i
      · subst e2
        rw [upd_same] at h2
        exact absurd h1 (hij hs' gj h2 j hj e1 hs)
      · rw [upd_other _ _ e2] at h2
        exact h.inj j k hj hk (hS j hj e1 hs) (hS k hk e2 hs') gj h1 h2
/-- A newer row lies apart. -/
theorem apart_new {u x : Value} {C : Nat} (hx : ∀ g, x.ownBlock = some g → C ≤ g) (hu : ∀ g, u.ownBlock = some g → g < C) : Apart u x := fun g hg y n c e h0 he => by
  have h1 := hu g hg
  have h2 := hx y.block (by rw [e]; rfl)
  omega
theorem Ow.below9 {e : TypeId} {w : World} {C : Nat} {v : Value} {l : List UInt8} (h : Ow e w C v l) : ∀ g, v.ownBlock = some g → C ≤ g := h.own_ge
theorem NX.len {e ei : TypeId} {w : World} {B g N c : Nat} {t : List Nod} {P U H : Nat → Value} {S : Nat → Prop} (h : NX e ei w B (.slice (some ⟨g, 0, none⟩) N c) t P U H S) : t.length = N := by
  obtain ⟨us, k1, _⟩ := h.row
  rcases k1.2 with ⟨e, _⟩ | ⟨g', cap, cur, e, _⟩
  · simp at e
  · simp only [Value.slice.injEq] at e; exact e.2.1.symm
theorem nset9 (t : List Nod) (i : Nat) (hi : i < t.length) : t.set i (ats t i) = t := by
  rw [ats_get hi]; exact List.set_getElem_self hi
/-- A node's Pub is cloned. -/
theorem NX.clonePub {e ei eb : TypeId} {w w3 : World} {B C g N c k : Nat} {t : List Nod} {P U H : Nat → Value} {S : Nat → Prop} (h : NX e ei w B (.slice (some ⟨g, 0, none⟩) N c) t P U H S) (K : Kp w w3) (hk : k < t.length) (hS : ¬ S k)
    {p' : Value} (ho : Ow eb w3 C p' (ats t k).pub) (hC : w.heap.size ≤ C) (hg : g < w.heap.size) :
    NX e ei (w3.setCells g (k * 5 + 2) [p']) B (.slice (some ⟨g, 0, none⟩) N c) t (upd P k p') (upd U k (U k)) (upd H k (H k)) S := by
  have h3 := h.kp K
  have ap : Apart (.slice (some ⟨g, 0, none⟩) N c) p' := apart_new (C := C) ho.own_ge (fun g' hg' => by cases hg'; exact Nat.lt_of_lt_of_le hg hC)
  have := h3.put (w2 := w3) rfl k hk (ats t k) p' (U k) (H k) (fun j hj _ => h3.ins j hj) S (fun j _ _ h => h) (fun j hj _ hs => h3.own j hj hs) ⟨ho.rd, (h3.ins k hk).un, (h3.ins k hk).hash⟩ ⟨ap, (h3.apv k hk).2.1, (h3.apv k hk).2.2⟩
    (fun hs => absurd hs hS) (fun hs => absurd hs hS) (fun j hj hjk hs => ?_) (fun hs => absurd hs hS) 2 [p'] (by simp) (fun z hz => by
      simp at hz; subst hz
      obtain ⟨a, n, c, e⟩ := rd_sl9 ho.rd
      rw [e]; rfl) (fun f hf => by
      match f, hf with
      | 0, _ => rfl
      | 1, _ => rfl
      | 2, _ => rfl
      | 3, _ => rfl
      | 4, _ => rfl)
  · rwa [nset9 t k hk] at this
  · refine ⟨apart_new (C := C) ho.own_ge (fun g' hg' => ?_), ?_, ?_⟩
    · have := ((h.own j hj hs).lt g' hg').2
      omega
    · exact fun g' hg' => ((h.sep j hj hs g' hg').2 k hk).2.1 g' hg'
    · exact fun g' hg' => ((h.sep j hj hs g' hg').2 k hk).2.2 hjk g' hg'
/-- A node's Un is cloned. -/
theorem NX.cloneUn {e ei : TypeId} {w w3 : World} {B C g N c k : Nat} {t : List Nod} {P U H : Nat → Value} {S S' : Nat → Prop} (h : NX e ei w B (.slice (some ⟨g, 0, none⟩) N c) t P U H S) (K : Kp w w3) (hk : k < t.length) (hS : ∀ j, S' j → j ≠ k → S j)
    {u' : Value} (ho : OI ei w3 C u' (ats t k).un) (hC : w.heap.size ≤ C) (hg : g < w.heap.size) (hB : B ≤ w.heap.size) :
    NX e ei (w3.setCells g (k * 5 + 3) [u']) B (.slice (some ⟨g, 0, none⟩) N c) t (upd P k (P k)) (upd U k u') (upd H k (H k)) S' := by
  have h3 := h.kp K
  have hu := fun g' hg' => (ho.lt g' hg').1
  have ap : Apart (.slice (some ⟨g, 0, none⟩) N c) u' := apart_new (C := C) hu (fun g' hg' => by cases hg'; exact Nat.lt_of_lt_of_le hg hC)
  have hw : ∀ g', u'.ownBlock = some g' → w.heap.size ≤ g' := fun g' hg' => Nat.le_trans hC (hu g' hg')
  have := h3.put (w2 := w3) rfl k hk (ats t k) (P k) u' (H k) (fun j hj _ => h3.ins j hj) S' (fun j _ hjk hs => hS j hs hjk) (fun j hj hjk hs => h3.own j hj (hS j hs hjk)) ⟨(h3.ins k hk).pub, ho.ri, (h3.ins k hk).hash⟩ ⟨(h3.apv k hk).1, ap, (h3.apv k hk).2.2⟩
    (fun _ => ho.mono (Nat.le_trans hB hC)) (fun _ gu hgu => ⟨fun e => by have := hw gu hgu; omega, (h.ins k hk).pub.apart hw, (h.ins k hk).hash.apart hw, fun j hj _ => ⟨(h.ins j hj).pub.apart hw, (h.ins j hj).hash.apart hw, (h.ins j hj).un.apart hw⟩⟩)
    (fun j hj hjk hs => ?_) (fun _ gu hgu j hj hjk hs e => by have h1 := ((h.own j hj (hS j hs hjk)).lt gu e).2; have h2 := hw gu hgu; omega) 3 [u'] (by simp) (fun z hz => by
      simp at hz; subst hz
      obtain ⟨a, n, c, e⟩ := ho.ri.sl
      rw [e]; rfl) (fun f hf => by
      match f, hf with
      | 0, _ => rfl
      | 1, _ => rfl
      | 2, _ => rfl
      | 3, _ => rfl
      | 4, _ => rfl)
  · rwa [nset9 t k hk] at this
  · have hs' := hS j hs hjk
    refine ⟨?_, ?_, apart_new (C := C) hu (fun g' hg' => ?_)⟩
    · exact fun g' hg' => ((h.sep j hj hs' g' hg').2 k hk).1 g' hg'
    · exact fun g' hg' => ((h.sep j hj hs' g' hg').2 k hk).2.1 g' hg'
    · have := ((h.own j hj hs').lt g' hg').2
      omega
/-- A node's Hash is cloned. -/
theorem NX.cloneHash {e ei eb : TypeId} {w w3 : World} {B C g N c k : Nat} {t : List Nod} {P U H : Nat → Value} {S : Nat → Prop} (h : NX e ei w B (.slice (some ⟨g, 0, none⟩) N c) t P U H S) (K : Kp w w3) (hk : k < t.length)
    {p' : Value} (ho : Ow eb w3 C p' (ats t k).hash) (hC : w.heap.size ≤ C) (hg : g < w.heap.size) :
    NX e ei (w3.setCells g (k * 5 + 4) [p']) B (.slice (some ⟨g, 0, none⟩) N c) t (upd P k (P k)) (upd U k (U k)) (upd H k p') S := by
  have h3 := h.kp K
  have ap : Apart (.slice (some ⟨g, 0, none⟩) N c) p' := apart_new (C := C) ho.own_ge (fun g' hg' => by cases hg'; exact Nat.lt_of_lt_of_le hg hC)
  have := h3.put (w2 := w3) rfl k hk (ats t k) (P k) (U k) p' (fun j hj _ => h3.ins j hj) S (fun j _ _ h => h) (fun j hj _ hs => h3.own j hj hs) ⟨(h3.ins k hk).pub, (h3.ins k hk).un, ho.rd⟩ ⟨(h3.apv k hk).1, (h3.apv k hk).2.1, ap⟩
    (fun hs => h3.own k hk hs) (fun hs gu hgu => ?_) (fun j hj hjk hs => ?_) (fun hs gu hgu j hj hjk hs' e => hjk (h.inj j k hj hk hs' hs gu e hgu)) 4 [p'] (by simp) (fun z hz => by
      simp at hz; subst hz
      obtain ⟨a, n, c, e⟩ := rd_sl9 ho.rd
      rw [e]; rfl) (fun f hf => by
      match f, hf with
      | 0, _ => rfl
      | 1, _ => rfl
      | 2, _ => rfl
      | 3, _ => rfl
      | 4, _ => rfl)
  · rwa [nset9 t k hk] at this
  · obtain ⟨s1, s2⟩ := h.sep k hk hs gu hgu
    refine ⟨fun e => s1 (by rw [e]; rfl), (s2 k hk).1, apart_new (C := C) ho.own_ge (fun g' hg' => ?_), fun j hj hjk => ⟨(s2 j hj).1, (s2 j hj).2.1, (s2 j hj).2.2 (fun e => hjk e.symm)⟩⟩
    have := ((h.own k hk hs).lt g' hg').2
    omega
  · refine ⟨?_, apart_new (C := C) ho.own_ge (fun g' hg' => ?_), ?_⟩
    · exact fun g' hg' => ((h.sep j hj hs g' hg').2 k hk).1 g' hg'
    · have := ((h.own j hj hs).lt g' hg').2
      omega
    · exact fun g' hg' => ((h.sep j hj hs g' hg').2 k hk).2.2 hjk g' hg'
theorem Bx.grown {w w' : World} {b : Nat} {T : TypeId} {cs : Array Value} {r : Option Nat} (h : Bx w b T cs) (hg : w.grownBy w' r) (hn : some b ≠ r) : Bx w' b T cs := (hg.block b (Array.getElem?_eq_some_iff.1 h).1 hn).trans h
theorem NX.there {e ei : TypeId} {w : World} {B g N c : Nat} {t : List Nod} {P U H : Nat → Value} {S : Nat → Prop} (h : NX e ei w B (.slice (some ⟨g, 0, none⟩) N c) t P U H S) (i : Nat) (hi : i < t.length) (f : Nat) (hf : f < 5) : w.there g (i * 5 + f) 1 := fun j hj => by
  have := h.no.there i hi (f + j) (by omega)
  rwa [← Nat.add_assoc] at this
/-- A number more in a node's Un, laid by the call's own row. -/
theorem NX.withUn {e ei : TypeId} {w w2 : World} {B g N c k : Nat} {t : List Nod} {P U H : Nat → Value} {l : List Int} (h : NX e ei w B (.slice (some ⟨g, 0, none⟩) N c) t P U H (fun _ => True)) (hk : k < t.length) (hg : g < w.heap.size)
    {u' : Value} (ho : OI ei w2 B u' l) (hw : w.grownBy w2 (U k).ownBlock) (hu : u'.ownBlock = (U k).ownBlock ∨ ∃ g', u'.ownBlock = some g' ∧ w.heap.size ≤ g') :
    NX e ei (w2.setCells g (k * 5 + 3) [u']) B (.slice (some ⟨g, 0, none⟩) N c) (t.set k ⟨(ats t k).kind, (ats t k).name, (ats t k).pub, l, (ats t k).hash⟩) (upd P k (P k)) (upd U k u') (upd H k (H k)) (fun _ => True) := by
  have hUg : ∀ gu, (U k).ownBlock = some gu → g ≠ gu := fun gu hgu e => (h.sep k hk trivial gu hgu).1 (by rw [e]; rfl)
  have ug : ∀ gu, u'.ownBlock = some gu → g ≠ gu := fun gu hgu => by
    rcases hu with hu | ⟨g', h1, h2⟩
    · exact hUg gu (hu ▸ hgu)
    · rw [h1] at hgu; cases hgu; omega
  have aU : ∀ j, j < t.length → Apart (U k) (P j) ∧ Apart (U k) (H j) ∧ (k ≠ j → Apart (U k) (U j)) := fun j hj =>
    ⟨fun gu hgu => ((h.sep k hk trivial gu hgu).2 j hj).1 gu hgu, fun gu hgu => ((h.sep k hk trivial gu hgu).2 j hj).2.1 gu hgu, fun hne gu hgu => ((h.sep k hk trivial gu hgu).2 j hj).2.2 hne gu hgu⟩
  have au : ∀ j, j < t.length → Apart u' (P j) ∧ Apart u' (H j) ∧ (k ≠ j → Apart u' (U j)) := fun j hj => by
    have hi := h.ins j hj
    rcases hu with hu | ⟨g', h1, h2⟩
    · exact ⟨fun gu hgu => (aU j hj).1 gu (hu ▸ hgu), fun gu hgu => (aU j hj).2.1 gu (hu ▸ hgu), fun hne gu hgu => (aU j hj).2.2 hne gu (hu ▸ hgu)⟩
    · have hv : ∀ gg, u'.ownBlock = some gg → w.heap.size ≤ gg := fun gg hgg => by rw [h1] at hgg; cases hgg; exact h2
      exact ⟨hi.pub.apart hv, hi.hash.apart hv, fun _ => hi.un.apart hv⟩
  have av : Apart (.slice (some ⟨g, 0, none⟩) N c) u' := fun gg hgg x n c' e h0 he => by
    have hx : u'.ownBlock = some x.block := by rw [e]; rfl
    have h1 := ug x.block hx
    have h2 : gg = g := by cases hgg; rfl
    exact h1 (by rw [← h2, he])
  have nin : ∀ j, j < t.length → j ≠ k → NIn w2 (ats t j) (P j) (U j) (H j) := fun j hj hjk => (h.ins j hj).grown (v := U k) hw (aU j hj).1 ((aU j hj).2.2 (fun e => hjk e.symm)) (aU j hj).2.1
  have hik := h.ins k hk
  exact h.put (w2 := w2) (hw.block g hg (fun e => hUg g e.symm rfl)) k hk ⟨(ats t k).kind, (ats t k).name, (ats t k).pub, l, (ats t k).hash⟩ (P k) u' (H k) nin (fun _ => True) (fun j _ _ h => h)
    (fun j hj hjk _ => (h.own j hj trivial).grown9 hw (fun gj hgj e => hjk (h.inj j k hj hk trivial trivial gj hgj e)))
    ⟨hik.pub.grown9 hw (aU k hk).1, ho.ri, hik.hash.grown9 hw (aU k hk).2.1⟩ ⟨(h.apv k hk).1, av, (h.apv k hk).2.2⟩ (fun _ => ho)
    (fun _ gu hgu => ⟨ug gu hgu, (au k hk).1, (au k hk).2.1, fun j hj hjk => ⟨(au j hj).1, (au j hj).2.1, (au j hj).2.2 (fun e => hjk e.symm)⟩⟩)
    (fun j hj hjk _ => ⟨fun gj hgj => ((h.sep j hj trivial gj hgj).2 k hk).1 gj hgj, fun gj hgj => ((h.sep j hj trivial gj hgj).2 k hk).2.1 gj hgj, fun gj hgj x n c' e h0 he => by
      have hx : u'.ownBlock = some x.block := by rw [e]; rfl
      have hlt := ((h.own j hj trivial).lt gj hgj).2
      rcases hu with hu | ⟨g', h1, h2⟩
      · rw [hu, he] at hx
        exact hjk (h.inj j k hj hk trivial trivial gj hgj hx)
      · rw [h1] at hx
        cases hx
        omega⟩)
    (fun _ gu hgu j hj hjk _ e => by
      have hlt := ((h.own j hj trivial).lt gu e).2
      rcases hu with hu | ⟨g', h1, h2⟩
      · exact hjk (h.inj j k hj hk trivial trivial gu e (hu ▸ hgu))
      · rw [h1] at hgu
        cases hgu
        omega) 3 [u'] (by simp) (fun z hz => by
      simp at hz; subst hz
      obtain ⟨a, n, c, e⟩ := ho.ri.sl
      rw [e]; rfl) (fun f hf => by
      match f, hf with
      | 0, _ => rfl
      | 1, _ => rfl
      | 2, _ => rfl
      | 3, _ => rfl
      | 4, _ => rfl)
/-- A whole node, without Un. -/
theorem NX.leaf {e ei eb : TypeId} {w w3 : World} {B C g N c k : Nat} {t : List Nod} {P U H : Nat → Value} (h : NX e ei w B (.slice (some ⟨g, 0, none⟩) N c) t P U H (fun _ => True)) (K : Kp w w3) (hk : k < t.length) (m : Nod) (hm : m.un = []) (hh : m.hash = [])
    {p' : Value} (ho : Ow eb w3 C p' m.pub) (hC : w.heap.size ≤ C) (hg : g < w.heap.size) :
    NX e ei (w3.setCells g (k * 5) [.int .i64 m.kind, .int .i64 m.name, p', .slice none 0 0, .slice none 0 0]) B (.slice (some ⟨g, 0, none⟩) N c) (t.set k m) (upd P k p') (upd U k (.slice none 0 0)) (upd H k (.slice none 0 0)) (fun _ => True) := by
  have h3 := h.kp K
  have ap : Apart (.slice (some ⟨g, 0, none⟩) N c) p' := apart_new (C := C) ho.own_ge (fun g' hg' => by cases hg'; exact Nat.lt_of_lt_of_le hg hC)
  have hin : NIn w3 m p' (.slice none 0 0) (.slice none 0 0) := ⟨ho.rd, by rw [hm]; exact RI.nil _, by rw [hh]; exact rd_nil9 _⟩
  have := h3.put (w2 := w3) rfl k hk m p' (.slice none 0 0) (.slice none 0 0) (fun j hj _ => h3.ins j hj) (fun _ => True) (fun j _ _ h => h) (fun j hj _ hs => h3.own j hj hs) hin ⟨ap, Apart.nil _ _ _, Apart.nil _ _ _⟩
    (fun _ => by rw [hm]; exact OI.nil _ _ _) (fun _ gu hgu => by cases hgu) (fun j hj hjk _ => ⟨apart_new (C := C) ho.own_ge (fun g' hg' => by have := ((h.own j hj trivial).lt g' hg').2; omega), Apart.nil _ _ _, Apart.nil _ _ _⟩) (fun _ gu hgu => by cases hgu)
    0 (nodC m p' (.slice none 0 0) (.slice none 0 0)) (by show 0 + 5 ≤ 5; omega) (nodC_one hin) (fun f hf => by
      have h5 : (nodC m p' (.slice none 0 0) (.slice none 0 0)).length = 5 := rfl
      rw [h5, if_pos ⟨by omega, by omega⟩, Nat.sub_zero])
  exact this
end Go.Proofs.YtobldbodafaajaaGreatDoor

/- Stores of a node's cells, in worlds that are named; what a row of nodes holds at a place. -/
set_option linter.unusedVariables false
set_option linter.unusedSimpArgs false
namespace Go.Proofs.YtobldbodafaajaaGreatDoor
open Go.RowKit

/-- A store into one cell, in a world that is named. -/
theorem wpList_store_cell9 {P : Program} {ops : Array Oper} {rest : List Oper} {o : Oper} {a : Act} {w : World} {Q : Exit → Act → World → Prop} (hgd : o.guard = none) (hd : o.dst = none) (ty : TypeId) (x y : Operand) (ho : o.op = .store ty x y)
    (b f : Nat) (v : Value) (hx : a.eval x = .pointer (some ⟨b, f, none⟩)) (hy : a.eval y = v) (h1 : v.oneCell' = true) (ht : w.there b f 1) (hi : (P.info? ty).map (·.size) = some 1)
    (h : ∀ w', w' = w.setCells b f [v] → wpList P ops Q rest a w') : wpList P ops Q (o :: rest) a w := by
  have hc : v.cells = #[v] := by cases v <;> first | rfl | cases h1
  have := run_storeCells_cells (P := P) b f [v] 0 w (fun j hj => by simpa using (ht j (by simpa using hj)).1) (fun j hj => by simpa using (ht j (by simpa using hj)).2)
    (fun z hz => by simp at hz; subst hz; exact h1)
  have hrun : (storeVar ty ⟨b, f, none⟩ v).run P w = .ok () (w.setCells b f [v]) := by
    cases hq : P.info? ty with
    | none => simp [hq] at hi
    | some i =>
      have hs : i.size = 1 := by simpa [hq] using hi
      simp only [Nat.add_zero] at this
      simp [storeVar, sizeOf, typeInfo, hq, hc, hs, this]
  refine wpList_plain hgd fun _ hK => ?_
  unfold Oper.wp execOp
  simp only [ho, hx, hy, Instr.storeAt, Instr.sureAddr, Sem.run_bind, Sem.run_pure, Result.andThen_ok, hrun]
  refine hK _ _ ?_
  rw [hd]
  exact h _ rfl
theorem size1_bytes : (Tryz.prog.info? 25).map (·.size) = some 1 := by kernel_rfl
theorem size1_ints : (Tryz.prog.info? 35).map (·.size) = some 1 := by kernel_rfl
theorem choose9 {N : Nat} {R : Nat → Value → Value → Value → Prop} (h : ∀ i, i < N → ∃ p u q, R i p u q) : ∃ P U Q : Nat → Value, ∀ i, i < N → R i (P i) (U i) (Q i) := by
  have h' : ∀ i, ∃ p u q, i < N → R i p u q := fun i => by
    by_cases hi : i < N
    · obtain ⟨p, u, q, hr⟩ := h i hi
      exact ⟨p, u, q, fun _ => hr⟩
    · exact ⟨undef, undef, undef, fun hh => absurd hh hi⟩
  exact ⟨fun i => (h' i).choose, fun i => (h' i).choose_spec.choose, fun i => (h' i).choose_spec.choose_spec.choose, fun i hi => (h' i).choose_spec.choose_spec.choose_spec hi⟩
theorem set_same9 (t : List Nod) (i : Nat) (hi : i < t.length) : t.set i (ats t i) = t := by
  rw [ats_get hi]; exact List.set_getElem_self hi
/-- A store of five cells, in a world that is named. -/
theorem wpList_store_five9 {P : Program} {ops : Array Oper} {rest : List Oper} {o : Oper} {a : Act} {w : World} {Q : Exit → Act → World → Prop} (hgd : o.guard = none) (hd : o.dst = none) (ty : TypeId) (x y : Operand) (ho : o.op = .store ty x y)
    (g f : Nat) (cs : List Value) (hx : a.eval x = .pointer (some ⟨g, f, none⟩)) (hy : a.eval y = .agg cs.toArray) (hl : cs.length = 5) (hone : ∀ z ∈ cs, z.oneCell' = true) (ht : w.there g f 5) (hi : (P.info? ty).map (·.size) = some 5)
    (h : ∀ w', w' = w.setCells g f cs → wpList P ops Q rest a w') : wpList P ops Q (o :: rest) a w := by
  refine wpList_store_mid hgd ty x y ho g f cs.toArray hx hy (by rw [List.size_toArray, hl]; exact ht) (by rw [hi, List.size_toArray, hl]) (all_oneCell_toArray hone) ?_
  rw [hd]
  exact h _ rfl
theorem NX.at {e ei : TypeId} {w : World} {B g N c : Nat} {t : List Nod} {P U H : Nat → Value} {S : Nat → Prop} (h : NX e ei w B (.slice (some ⟨g, 0, none⟩) N c) t P U H S) (i : Nat) (hi : i < t.length) : NAt w g (i * 5) (ats t i) (P i) (U i) (H i) := by
  obtain ⟨us, k1, k2, k3⟩ := h.row
  have hn := h.len
  subst hn
  refine ⟨fun j x hj => ?_, h.ins i hi⟩
  have hjl : j < 5 := (List.getElem?_eq_some_iff.1 hj).1
  rw [k1.cellAt (i * 5 + j) (by omega), k3 i hi j hjl]
  exact hj
theorem there_grown9 {w w' : World} {g o n : Nat} {r : Option Nat} (h : w.there g o n) (hg : w.grownBy w' r) (hne : r ≠ some g) (hlt : g < w.heap.size) : w'.there g o n := fun j hj => by
  have hb := hg.block g hlt (fun e => hne e.symm)
  obtain ⟨h1, h2⟩ := h j hj
  refine ⟨?_, ?_⟩
  · rw [World.cell?_of_block (w := w) (a := ⟨g, o + j, none⟩) hb]; exact h1
  · unfold World.frozen? at h2 ⊢
    rw [hb]; exact h2
theorem NX.gt {e ei : TypeId} {w : World} {B g N c : Nat} {t : List Nod} {P U H : Nat → Value} {S : Nat → Prop} (h : NX e ei w B (.slice (some ⟨g, 0, none⟩) N c) t P U H S) : B ≤ g ∧ g < w.heap.size := by
  obtain ⟨us, k1, _⟩ := h.row
  exact World.ownsRow.lt k1 g rfl
end Go.Proofs.YtobldbodafaajaaGreatDoor

/- tree.isName, isHalf, size, root, newLeaf, New, path. -/
set_option linter.unusedVariables false
set_option linter.unusedSimpArgs false
namespace Go.Proofs.YtobldbodafaajaaGreatDoor
open Go.RowKit

/-- How many leaves a row of nodes has; 0, if no tree is as long. -/
def sizeN (t : List Nod) : Nat := if isTB ((lvs t : Nat) : Int) = true ∧ 2 * lvs t = t.length + 1 then lvs t else 0
theorem sizeN_len {t : List Nod} {K : Nat} (hK : K ≤ 10) (h : t.length = 2 ^ (K + 1) - 1) : sizeN t = 2 ^ K ∧ lvs t = 2 ^ K := by
  have h1 := p2_succ K
  have h2 := p2_pos K
  have e1 : lvs t = 2 ^ K := by unfold lvs; omega
  refine ⟨?_, e1⟩
  unfold sizeN
  rw [e1, if_pos ⟨isTB_yes K hK, by omega⟩]
theorem sizeN_iff (t : List Nod) : sizeN t ≠ 0 ↔ ∃ K, K ≤ 10 ∧ t.length = 2 ^ (K + 1) - 1 := by
  constructor
  · intro h
    unfold sizeN at h
    split at h
    · next hb =>
      obtain ⟨K, hK, e⟩ := (isTB_iff _).1 hb.1
      have h1 := p2_succ K
      exact ⟨K, hK, by omega⟩
    · exact absurd rfl h
  · rintro ⟨K, hK, h⟩
    have := (sizeN_len hK h).1
    have := p2_pos K
    omega
theorem sizeN_le (t : List Nod) : sizeN t ≤ 1024 ∧ (sizeN t ≠ 0 → sizeN t = lvs t ∧ 2 * sizeN t = t.length + 1) := by
  unfold sizeN
  split
  · next h => have := isTB_bounds h.1; exact ⟨by omega, fun _ => ⟨rfl, h.2⟩⟩
  · exact ⟨by omega, fun h => absurd rfl h⟩
theorem Step.setCells {Y : Nat → Prop} {A B : World} (h : Step Y A B) {b : Nat} (hb : A.heap.size ≤ b ∨ Y b) : ∀ (vs : List Value) (o : Nat), Step Y A (B.setCells b o vs) := by
  intro vs
  induction vs generalizing B with
  | nil => intro o; exact h
  | cons v vs ih => intro o; exact ih (h.setCell _ _ hb) (o + 1)
theorem Ow.stepY {e : TypeId} {Y : Nat → Prop} {A A' : World} {B : Nat} {v : Value} {l : List UInt8} (h : Ow e A B v l) (hs : Step Y A A') (ho : ∀ g, v.ownBlock = some g → ¬ Y g) : Ow e A' B v l := ownsRow_step8 h hs ho
end Go.Proofs.YtobldbodafaajaaGreatDoor

/- slices.Sort, Compact, Insert, Equal, Clone at rows of ints; slices.Clone at nodes; bytes.Equal: the laid contracts, in the words of rows of the call's own. -/
set_option linter.unusedVariables false
set_option linter.unusedSimpArgs false
namespace Go.Proofs.YtobldbodafaajaaGreatDoor
open Go.RowKit Go.Sort

theorem Step.grown9 {g : Nat} {A B : World} (h : Step (fun k => k = g) A B) : A.grownBy B (some g) := ⟨h.os, h.tape, h.output, h.size, fun k hk hn => h.block k hk (fun e => hn (by rw [e]))⟩
theorem Kp.grown9 {A B : World} (h : Kp A B) (row : Option Nat) : A.grownBy B row := ⟨h.os, h.tape, h.output, h.size, fun k hk _ => h.block k hk⟩
theorem own_of_bx {e : TypeId} {w : World} {B g cap : Nat} {cells : Array Value} {xs : List Value} (h : Bx w g e cells) (hB : B ≤ g) (hs : cells.size = cap) (hn : xs.length ≤ cap) (hm : cap ≤ maxLen) (hk : ∀ k, k < xs.length → cells[k]? = xs[k]?) :
    w.ownsRow B e 1 (.slice (some ⟨g, 0, none⟩) xs.length cap) xs.length xs := by
  refine ⟨by rw [Nat.mul_one], .inr ⟨g, cap, cells, rfl, hB, h, hn, hm, by rw [hs, Nat.mul_one], ?_⟩⟩
  refine List.ext_getElem? fun k => ?_
  rw [Nat.mul_one]
  by_cases h1 : k < xs.length
  · rw [List.getElem?_take_of_lt h1, Array.getElem?_toList, hk k h1]
  · rw [List.getElem?_take_eq_none (by omega), List.getElem?_eq_none (by omega)]
theorem oi_of_bx {e : TypeId} {w : World} {B g cap n : Nat} {cells : Array Value} {xs : List Int} (h : Bx w g e cells) (hB : B ≤ g) (hs : cells.size = cap) (hl : xs.length = n) (hn : n ≤ cap) (hm : cap ≤ maxLen) (hk : ∀ k, k < n → cells[k]? = some (nI (xs.getD k 0))) :
    OI e w B (.slice (some ⟨g, 0, none⟩) n cap) xs := by
  subst hl
  have := own_of_bx (xs := xs.map nI) h hB hs (by rw [List.length_map]; exact hn) hm fun k hk' => by
    rw [List.length_map] at hk'
    rw [hk k hk', List.getElem?_map, List.getElem?_eq_getElem hk', List.getD_eq_getElem?_getD, List.getElem?_eq_getElem hk']
    rfl
  unfold OI
  rw [List.length_map] at this ⊢
  exact this

theorem nI_one : ∀ (l : List Int), ∀ v ∈ l.map nI, v.oneCell' = true := fun l v hv => by
  obtain ⟨n, _, rfl⟩ := List.mem_map.1 hv
  rfl
theorem ins_get (un : List Int) (at' : Nat) (x : Int) (k : Nat) (h : at' ≤ un.length) : (un.take at' ++ x :: un.drop at').getD k 0 = if k < at' then un.getD k 0 else if k = at' then x else un.getD (k - 1) 0 := by
  rw [List.getD_eq_getElem?_getD]
  have hl : (un.take at').length = at' := by rw [List.length_take]; omega
  by_cases h1 : k < at'
  · rw [if_pos h1, List.getElem?_append_left (by omega), List.getElem?_take_of_lt h1, List.getD_eq_getElem?_getD]
  · rw [if_neg h1, List.getElem?_append_right (by omega), hl]
    by_cases h2 : k = at'
    · subst h2; rw [if_pos rfl, Nat.sub_self]; rfl
    · rw [if_neg h2, show k - at' = (k - 1 - at') + 1 by omega, List.getElem?_cons_succ, List.getElem?_drop, show at' + (k - 1 - at') = k - 1 by omega, List.getD_eq_getElem?_getD]
theorem ins_len (un : List Int) (at' : Nat) (x : Int) (h : at' ≤ un.length) : (un.take at' ++ x :: un.drop at').length = un.length + 1 := by
  simp only [List.length_append, List.length_cons, List.length_take, List.length_drop]; omega
theorem mapI_get (un : List Int) (k : Nat) (h : k < un.length) : (un.map nI)[k]? = some (nI (un.getD k 0)) := by
  rw [List.getElem?_map, List.getElem?_eq_getElem h, List.getD_eq_getElem?_getD, List.getElem?_eq_getElem h]
  rfl
theorem Bx.shape {w : World} {b : Nat} {T : TypeId} {cs : Array Value} (h : Bx w b T cs) : w.shape? b = some (T, cs.size) := by
  unfold World.shape?
  rw [show w.heap[b]? = _ from h]
/-- A new row that an append has laid. -/
theorem grown_new {un : List Int} {x : Int} {w : World} {B n c : Nat} (hB : B ≤ w.heap.size) (hl : un.length = n) (hn : n ≤ 1000000) :
    OI 3 (w.drew.alloc (.cells ((un.map nI ++ [nI x]).toArray ++ Builtin.zeroCells (Value.int .i64 0).cells (grownCap w (n + 1) c 3 - (n + 1))) 3)) B (.slice (some ⟨w.heap.size, 0, none⟩) (n + 1) (grownCap w (n + 1) c 3)) (un ++ [x]) ∧
      Kp w (w.drew.alloc (.cells ((un.map nI ++ [nI x]).toArray ++ Builtin.zeroCells (Value.int .i64 0).cells (grownCap w (n + 1) c 3 - (n + 1))) 3)) := by
  have h1 := grownCap_ge w (n + 1) c 3
  have h2 := grownCap_le_maxLen w (n + 1) c 3 (by unfold maxLen; omega)
  refine ⟨?_, ((Kp.refl w).drew).alloc _⟩
  refine oi_of_bx (cells := (un.map nI ++ [nI x]).toArray ++ Builtin.zeroCells (Value.int .i64 0).cells (grownCap w (n + 1) c 3 - (n + 1))) (Bx.new w.drew 3 _) hB ?_ (by simp; omega) (by omega) h2 fun k hk => ?_
  · simp [Builtin.zeroCells, Value.cells]
    omega
  · rw [Array.getElem?_append_left (by simp; omega), List.getElem?_toArray]
    have e : (un.map nI ++ [nI x]) = (un ++ [x]).map nI := by simp
    rw [e]
    exact mapI_get _ _ (by simp; omega)
/-- A new row that an insert in the middle has laid. -/
theorem ins_new {un : List Int} {x : Int} {w : World} {B cap at' : Nat} (hB : B ≤ w.heap.size) (hat : at' ≤ un.length) (hl : un.length ≤ 1000000) :
    OI 3 ((((w.alloc (.cells (((un.map nI).take at').toArray ++ Builtin.zeroCells (Value.int .i64 0).cells (un.length + 1 - at') ++ Builtin.zeroCells (Value.int .i64 0).cells (grownCap w (un.length + 1) cap 3 - (un.length + 1))) 3)).drew.setCells w.heap.size at' [nI x]).drew).setCells w.heap.size (at' + 1) ((un.map nI).drop at')) B
        (.slice (some ⟨w.heap.size, 0, none⟩) (un.length + 1) (grownCap w (un.length + 1) cap 3)) (un.take at' ++ x :: un.drop at') ∧
      Kp w ((((w.alloc (.cells (((un.map nI).take at').toArray ++ Builtin.zeroCells (Value.int .i64 0).cells (un.length + 1 - at') ++ Builtin.zeroCells (Value.int .i64 0).cells (grownCap w (un.length + 1) cap 3 - (un.length + 1))) 3)).drew.setCells w.heap.size at' [nI x]).drew).setCells w.heap.size (at' + 1) ((un.map nI).drop at')) := by
  have hll := ins_len un at' x hat
  have c1 := grownCap_ge w (un.length + 1) cap 3
  have c2 := grownCap_le_maxLen w (un.length + 1) cap 3 (by unfold maxLen; omega)
  generalize hC : grownCap w (un.length + 1) cap 3 = C at *
  have hsz : (((un.map nI).take at').toArray ++ Builtin.zeroCells (Value.int .i64 0).cells (un.length + 1 - at') ++ Builtin.zeroCells (Value.int .i64 0).cells (C - (un.length + 1))).size = C := by
    simp [Builtin.zeroCells, Value.cells]
    omega
  have hfst : ∀ k, k < at' → (((un.map nI).take at').toArray ++ Builtin.zeroCells (Value.int .i64 0).cells (un.length + 1 - at') ++ Builtin.zeroCells (Value.int .i64 0).cells (C - (un.length + 1)))[k]? = some (nI (un.getD k 0)) := fun k hk => by
    rw [Array.append_assoc, Array.getElem?_append_left (by simp; omega), List.getElem?_toArray, List.getElem?_take_of_lt hk]
    exact mapI_get un k (by omega)
  generalize (((un.map nI).take at').toArray ++ Builtin.zeroCells (Value.int .i64 0).cells (un.length + 1 - at') ++ Builtin.zeroCells (Value.int .i64 0).cells (C - (un.length + 1))) = AA at *
  have hk1 : Kp w (w.alloc (.cells AA 3)).drew := ((Kp.refl w).alloc _).drew
  have b1 : Bx (w.alloc (.cells AA 3)).drew w.heap.size 3 AA := (Bx.new w 3 AA).kp (Kp.refl _).drew
  obtain ⟨cs1, p1, p2, p3⟩ := Bx.setCells [nI x] at' _ AA b1 (by simp; omega)
  obtain ⟨cs', q1, q2, q3⟩ := Bx.setCells ((un.map nI).drop at') (at' + 1) _ cs1 (p1.kp (Kp.refl _).drew) (by simp; omega)
  refine ⟨oi_of_bx q1 hB (q2.trans (p2.trans hsz)) hll c1 c2 (fun k hk => ?_), ((hk1.setCells (Nat.le_refl _) _ _).drew).setCells (Nat.le_refl _) _ _⟩
  rw [q3 k, ins_get un at' x k hat, p3 k]
  simp only [List.length_cons, List.length_nil, List.length_drop, List.length_map, Nat.zero_add]
  by_cases h1 : k < at'
  · rw [if_neg (by omega), if_neg (by omega), if_pos h1, hfst k h1]
  · by_cases h2 : k = at'
    · subst h2
      rw [if_neg (by omega), if_pos ⟨by omega, by omega⟩, if_neg h1, if_pos rfl, Nat.sub_self]
      rfl
    · rw [if_pos ⟨by omega, by omega⟩, if_neg h1, if_neg h2, List.getElem?_drop, mapI_get un _ (by omega)]
      congr 3
      omega
end Go.Proofs.YtobldbodafaajaaGreatDoor

/- tree.with; slices.Equal, Clone at ints; slices.Clone at nodes; bytes.Equal. -/
set_option linter.unusedVariables false
set_option linter.unusedSimpArgs false
namespace Go.Proofs.YtobldbodafaajaaGreatDoor
open Go.RowKit

/-- How many are less: the place where one more belongs. -/
theorem count_cut (n : Int) : ∀ (l : List Int), l.Pairwise (· < ·) → n ∉ l → l.countP (· < n) = cutI l n
  | [], _, _ => rfl
  | x :: l, hs, hn => by
    rw [List.pairwise_cons] at hs
    have hxn : x ≠ n := fun e => hn (by rw [e]; exact List.mem_cons_self ..)
    have hnl : n ∉ l := fun h => hn (List.mem_cons_of_mem _ h)
    have ih := count_cut n l hs.2 hnl
    unfold cutI at ih ⊢
    rw [List.countP_cons, List.findIdx_cons]
    by_cases h : n < x
    · have h2 : l.countP (fun z => decide (z < n)) = 0 := by
        rw [List.countP_eq_zero]
        intro z hz
        have := hs.1 z hz
        simp only [decide_eq_true_eq]
        omega
      rw [decide_eq_true h, h2, if_neg (by simp only [decide_eq_true_eq]; omega)]
      rfl
    · rw [decide_eq_false h, ih, if_pos (by simp only [decide_eq_true_eq]; omega)]
      rfl
theorem Rd.bytesIn {w : World} {a : Option Addr} {c : Nat} {l : List UInt8} (h : Rd w (.slice a l.length c) l) : Lib.BytesIn w a l.length (l.map fun b => (b.toNat : Int)) := fun h0 => by
  obtain ⟨b, off, e, _, hc⟩ := h.at 0 h0
  refine ⟨b, off, e, fun i hi => ?_⟩
  rw [hc i hi, List.getD_eq_getElem?_getD, List.getElem?_eq_getElem hi, List.getD_eq_getElem?_getD, List.getElem?_map, List.getElem?_eq_getElem hi]
  rfl
theorem bytesOf_back (l : List UInt8) : Lib.bytesOf (l.map fun b => (b.toNat : Int)) = l := by
  unfold Lib.bytesOf
  rw [List.map_map]
  conv => rhs; rw [← List.map_id l]
  refine List.map_congr_left fun b _ => ?_
  simp
theorem bytesEqual_any (u v : Value) (l m : List UInt8) (w : World) (hu : Rd w u l) (hv : Rd w v m) :
    Calls Tryz.prog 83 #[u, v] w fun e w' => e = .returned (.bool (decide (l = m))) ∧ Kp w w' := by
  obtain ⟨a1, c1, rfl, p1, s1⟩ := hu.shape
  obtain ⟨a2, c2, rfl, p2, s2⟩ := hv.shape
  refine (Tryz.bytes_Equal_all a1 a2 l.length c1 m.length c2 (l.map fun b => (b.toNat : Int)) (m.map fun b => (b.toNat : Int)) w (List.length_map ..) (List.length_map ..) hu.bytesIn hv.bytesIn).mono ?_
  rintro e w' ⟨rfl, rfl⟩
  rw [bytesOf_back, bytesOf_back]
  refine ⟨?_, Kp.refl _⟩
  by_cases e : l = m
  · rw [decide_eq_true e, e]; simp
  · rw [decide_eq_false e]; simp [e]
set_option maxHeartbeats 400000 in
theorem cloneI_any (v : Value) (l : List Int) (w : World) (h : RI w v l) (hl : l.length ≤ 1000000) :
    Calls Tryz.prog 77 #[v] w fun e w' => ∃ u, e = .returned u ∧ OI 3 w' w.heap.size u l ∧ Kp w w' := by
  have S := s1ints
  have q : ∀ (w : World) (a : Option Addr) (n c n' c' : Nat), (binOp .eql 35 (.slice a n c) (.slice none n' c')).run Tryz.prog w = .ok (.bool a.isNone) w := fun w a n c n' c' => Lib.run_eql_slice_nil w _ _ a n c n' c' Tryz.underlying35
  have h' := h
  obtain ⟨a, c, rfl, hc, hm⟩ := h.shape
  cases a with
  | none =>
    have hl0 : l = [] := by
      by_cases h0 : 0 < l.length
      · obtain ⟨b, off, e, _⟩ := h.at 0 h0
        cases e
      · exact List.eq_nil_of_length_eq_zero (by omega)
    subst hl0
    go_enter Tryz.func77, Tryz.ntmps77
    go_wp2_with fail
    go_ret
    exact ⟨_, rfl, OI.nil _ _ _, Kp.refl _⟩
  | some a =>
    go_enter Tryz.func77, Tryz.ntmps77
    go_wp2_with (at_builtin; refine wpList_append_i S rfl _ _ rfl w.heap.size _ [] rfl (RI.lit w _ #[] [] 0 rfl (by omega) rfl) _ l rfl (h'.kp ((Kp.refl _).alloc _)) ?c1 ?c2 ?_; rotate_right; intro v' w2 ho2 hg)
    case c1 => simp; omega
    case c2 => simp
    go_ret
    exact ⟨_, rfl, by simpa using ho2, Kp.grown (v := .slice (some ⟨w.heap.size, 0, none⟩) 0 0) ((Kp.refl _).alloc _) hg (by intro k hk; simp [Value.ownBlock] at hk; omega)⟩

/-- A clone of nodes: its cells are the same. -/
theorem NL.flat9 {w : World} {b off n c : Nat} {t : List Nod} (h : NL w (.slice (some ⟨b, off, none⟩) n c) t) (h0 : 0 < t.length) :
    ∃ us : List Value, us.length = t.length * 5 ∧ (∀ z ∈ us, z.oneCell' = true) ∧ (∀ j z, us[j]? = some z → w.cell? ⟨b, off + j, none⟩ = some z) ∧
      ∀ i, i < t.length → ∃ p u h, (∀ f, f < 5 → us[i * 5 + f]? = (nodC (ats t i) p u h)[f]?) ∧ NIn w (ats t i) p u h := by
  have hn : n = t.length := by
    obtain ⟨a', c', e, _⟩ := h.shape
    simp only [Value.slice.injEq] at e
    exact e.2.1
  obtain ⟨b', off', ea, _, hi⟩ := h.at 0 (by omega)
  simp only [Option.some.injEq, Addr.mk.injEq, and_true] at ea
  obtain ⟨rfl, rfl⟩ := ea
  have hnil : ∀ x : Value, Apart (.slice none 0 0) x := fun x g hg => by cases hg
  obtain ⟨us, h1, h2, h3, h4⟩ := NAp.flat (v := .slice none 0 0) (t := t) (fun i hi' => by
    obtain ⟨p, u, h, hn'⟩ := hi i (by omega)
    exact ⟨p, u, h, hn', hnil _, hnil _, hnil _⟩)
  refine ⟨us, h1, h2, h3, fun i hi' => ?_⟩
  obtain ⟨p, u, h, a1, a2, _⟩ := h4 i hi'
  exact ⟨p, u, h, a1, a2⟩
set_option maxRecDepth 100000 in
set_option maxHeartbeats 1000000 in
theorem cloneN_any (v : Value) (t : List Nod) (w : World) (hv : NL w v t) (h0 : 0 < t.length) (hl : t.length ≤ 1000000) :
    Calls Tryz.prog 75 #[v] w fun e w' => (∃ v' us, e = .returned v' ∧ w'.ownsRow w.heap.size 37 5 v' t.length us ∧ (∀ z ∈ us, z.oneCell' = true) ∧
      ∀ i, i < t.length → ∃ p u h, (∀ f, f < 5 → us[i * 5 + f]? = (nodC (ats t i) p u h)[f]?) ∧ NIn w (ats t i) p u h) ∧ Kp w w' := by
  have S := s5nodes
  obtain ⟨i0, z0, hi0, hz0, hz1, hz2, hz3⟩ := S.hi
  have q : ∀ (w : World) (a : Option Addr) (n c n' c' : Nat), (binOp .eql 22 (.slice a n c) (.slice none n' c')).run Tryz.prog w = .ok (.bool a.isNone) w := fun w a n c n' c' => Lib.run_eql_slice_nil w _ _ a n c n' c' Tryz.underlying22
  obtain ⟨a, c, rfl, hc, hm⟩ := hv.shape
  obtain ⟨b, off, rfl, _, _⟩ := hv.at 0 h0
  obtain ⟨us, h1, h2, h3, h4⟩ := hv.flat9 h0
  have H3 := Lib.hid h3
  have H4 := Lib.hid h4
  have H2 := Lib.hid h2
  have HBY := Lib.hid (And.intro hl (Nat.mul_le_mul hl hz2))
  generalize t.length = N at *
  have HM := Lib.hid hm
  have H1 := Lib.hid h1
  clear hv h4 h3 hl h2 h0 hm h1
  go_enter Tryz.func75, Tryz.ntmps75
  go_wp2_with (at_builtin; refine wpList_append_own_at _ rfl _ _ 22 rfl w.heap.size 37 i0 z0 5 i0.bytes S.ht hi0 hz0 hz1 rfl hz3 (by decide) _ 0 [] rfl (World.ownsRow_made w #[] 0 (Nat.le_refl _) (Nat.zero_le _) (by simp)) ⟨b, off, none⟩ N c us rfl H1.out (fun j y hj => by rw [Addr.add_mid]; exact ((Kp.refl w).alloc _).cell (H3.out j y hj)) H2.out (by have := HBY.out.1; unfold maxLen; omega) (by have := HBY.out.2; rw [Nat.zero_add]; omega) (by simp) ?_; intro v' w' k1 k2 _ k4)
  have K2 := Lib.hid (Kp.grown (w0 := w) (v := .slice (some ⟨w.heap.size, 0, none⟩) 0 0) ((Kp.refl _).alloc _) k2 (by intro k hk; simp [Value.ownBlock] at hk; omega))
  have K1 := Lib.hid k1
  clear k1 k2 k4
  go_ret
  exact ⟨⟨_, us, rfl, by simpa using K1.out, H2.out, H4.out⟩, K2.out⟩
end Go.Proofs.YtobldbodafaajaaGreatDoor

/- Rows of nodes under an iterator's steps: what lies apart from the iterator's blocks stays. Nothing of a dump. -/
set_option linter.unusedVariables false
set_option linter.unusedSimpArgs false
namespace Go.Proofs.YtobldbodafaajaaGreatDoor
open Go.RowKit

/-- The slice v leads into no block of Z. -/
def Free (Z : Nat → Prop) (v : Value) : Prop := ∀ x n c, v = .slice (some x) n c → 0 < n → ¬ Z x.block
theorem Free.mono {Z Z' : Nat → Prop} {v : Value} (h : Free Z v) (hz : ∀ k, Z' k → Z k) : Free Z' v := fun x n c e h0 hk => h x n c e h0 (hz _ hk)
theorem Free.nil (Z : Nat → Prop) (a : Option Addr) (c : Nat) : Free Z (.slice a 0 c) := fun x n c' e h0 => by
  simp only [Value.slice.injEq] at e
  omega
theorem Rd.inside {w : World} {v : Value} {l : List UInt8} (h : Rd w v l) : ∀ x n c, v = .slice (some x) n c → 0 < n → x.block < w.heap.size := fun x n c e h0 => by
  obtain ⟨a', c', e', h1, h2, h3, h4⟩ := h
  rw [e] at e'
  simp only [Value.slice.injEq] at e'
  obtain ⟨rfl, rfl, rfl⟩ := e'
  have hb := World.block_lt_of_cell? w _ (h4 x rfl 0 h0)
  rwa [add_block9] at hb
theorem RI.inside {w : World} {v : Value} {l : List Int} (h : RI w v l) : ∀ x n c, v = .slice (some x) n c → 0 < n → x.block < w.heap.size := fun x n c e h0 => by
  obtain ⟨a', c', e', h1, h2, h3, h4⟩ := h
  rw [e] at e'
  simp only [Value.slice.injEq] at e'
  obtain ⟨rfl, rfl, rfl⟩ := e'
  have hb := World.block_lt_of_cell? w _ (h4 x rfl 0 h0)
  rwa [add_block9] at hb
theorem Rd.stepF {A B : World} {Y : Nat → Prop} {v : Value} {l : List UInt8} (h : Rd A v l) (hs : Step Y A B) (hf : Free Y v) : Rd B v l := by
  obtain ⟨a, c, e, h1, h2, h3, h4⟩ := h
  subst e
  refine ⟨a, c, rfl, h1, h2, h3, fun x hx i hi => ?_⟩
  have hc := h4 x hx i hi
  subst hx
  exact hs.cell hc (by rw [add_block9]; exact hf x _ c rfl (by omega))
theorem RI.stepF {A B : World} {Y : Nat → Prop} {v : Value} {l : List Int} (h : RI A v l) (hs : Step Y A B) (hf : Free Y v) : RI B v l := by
  obtain ⟨a, c, e, h1, h2, h3, h4⟩ := h
  subst e
  refine ⟨a, c, rfl, h1, h2, h3, fun x hx i hi => ?_⟩
  have hc := h4 x hx i hi
  subst hx
  exact hs.cell hc (by rw [add_block9]; exact hf x _ c rfl (by first | omega | (rw [List.length_map] at hi ⊢; omega)))
/-- What was there in A leads into none of the iterator's blocks later on. -/
theorem Free.grew {A B : World} {Y Y' : Nat → Prop} {v : Value} (h : Free Y v) (hin : ∀ x n c, v = .slice (some x) n c → 0 < n → x.block < A.heap.size) (hg : Grew Y Y' A B) : Free Y' v := fun x n c e h0 hk => by
  rcases hg _ hk with h1 | h1
  · exact h x n c e h0 h1
  · have := hin x n c e h0
    omega
/-- Of a row of nodes: its slices lead into no block of Z. -/
def FreeN (Z : Nat → Prop) (N : Nat) (P U H : Nat → Value) : Prop := ∀ j, j < N → Free Z (P j) ∧ Free Z (U j) ∧ Free Z (H j)
theorem NX.stepF {e ei : TypeId} {A B : World} {Y : Nat → Prop} {C g n c : Nat} {t : List Nod} {P U H : Nat → Value} (h : NX e ei A C (.slice (some ⟨g, 0, none⟩) n c) t P U H (fun _ => False)) (hs : Step Y A B) (hg : ¬ Y g) (hf : FreeN Y t.length P U H) :
    NX e ei B C (.slice (some ⟨g, 0, none⟩) n c) t P U H (fun _ => False) := by
  obtain ⟨us, h1, h2, h3⟩ := h.row
  refine ⟨⟨us, ⟨h1.1, ?_⟩, h2, h3⟩, fun i hi => ?_, h.apv, fun i hi hs => hs.elim, fun i hi hs => hs.elim, fun i j hi hj hs => hs.elim⟩
  · rcases h1.2 with hn | ⟨g', cap, cur, e1, hb, hgg, rest⟩
    · exact .inl hn
    · simp only [Value.slice.injEq, Option.some.injEq, Addr.mk.injEq, and_true] at e1
      obtain ⟨rfl, _, rfl⟩ := e1
      exact .inr ⟨g, c, cur, by simp_all, hb, (hs.block g (Array.getElem?_eq_some_iff.1 hgg).1 hg).trans hgg, rest⟩
  · obtain ⟨f1, f2, f3⟩ := hf i hi
    have hi := h.ins i hi
    exact ⟨hi.pub.stepF hs f1, hi.un.stepF hs f2, hi.hash.stepF hs f3⟩
theorem FreeN.grew {e ei : TypeId} {A B : World} {Y Y' : Nat → Prop} {C : Nat} {v : Value} {t : List Nod} {P U H : Nat → Value} {S : Nat → Prop} (h : NX e ei A C v t P U H S) (hf : FreeN Y t.length P U H) (hg : Grew Y Y' A B) : FreeN Y' t.length P U H := fun j hj => by
  obtain ⟨f1, f2, f3⟩ := hf j hj
  have hi := h.ins j hj
  exact ⟨f1.grew hi.pub.inside hg, f2.grew hi.un.inside hg, f3.grew hi.hash.inside hg⟩
/-- A node gets another Hash. -/
theorem NX.rehash {e ei : TypeId} {A : World} {C g n c k : Nat} {t : List Nod} {P U H : Nat → Value} (h : NX e ei A C (.slice (some ⟨g, 0, none⟩) n c) t P U H (fun _ => False)) (hk : k < t.length) {r : Value} {l : List UInt8} (hr : Rd A r l) (hrg : Free (fun k => k = g) r) :
    NX e ei (A.setCell ⟨g, k * 5 + 4, none⟩ r) C (.slice (some ⟨g, 0, none⟩) n c) (t.set k ⟨(ats t k).kind, (ats t k).name, (ats t k).pub, (ats t k).un, l⟩) (upd P k (P k)) (upd U k (U k)) (upd H k r) (fun _ => False) := by
  have hin := h.ins k hk
  have hap := h.apv k hk
  exact h.put (w2 := A) rfl k hk ⟨(ats t k).kind, (ats t k).name, (ats t k).pub, (ats t k).un, l⟩ (P k) (U k) r (fun j hj _ => h.ins j hj) (fun _ => False) (fun j _ _ h => h.elim) (fun j _ _ h => h.elim) ⟨hin.pub, hin.un, hr⟩
    ⟨hap.1, hap.2.1, fun g' hg' x n' c' e h0 he => hrg x n' c' e h0 (by cases hg'; exact he)⟩ (fun h => h.elim) (fun h => h.elim) (fun j _ _ h => h.elim) (fun h => h.elim) 4 [r] (by simp) (fun z hz => by
      simp at hz; subst hz
      obtain ⟨a, c, e, _⟩ := hr.shape
      rw [e]; rfl) (fun f hf => by
      match f, hf with
      | 0, _ => rfl
      | 1, _ => rfl
      | 2, _ => rfl
      | 3, _ => rfl
      | 4, _ => rfl)
theorem FreeN.upd {Z : Nat → Prop} {N k : Nat} {P U H : Nat → Value} (h : FreeN Z N P U H) {r : Value} (hr : Free Z r) (hk : k < N) : FreeN Z N (upd P k (P k)) (upd U k (U k)) (upd H k r) := fun j hj => by
  by_cases e : j = k
  · subst e
    rw [upd_same, upd_same, upd_same]
    exact ⟨(h j hj).1, (h j hj).2.1, hr⟩
  · rw [upd_other _ _ e, upd_other _ _ e, upd_other _ _ e]
    exact h j hj
end Go.Proofs.YtobldbodafaajaaGreatDoor
