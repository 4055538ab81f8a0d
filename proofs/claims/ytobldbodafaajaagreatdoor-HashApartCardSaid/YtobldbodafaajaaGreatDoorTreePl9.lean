/- The ratchet tree in plain words: nodes, which trees are right, what is added, removed, changed, resolved. Nothing of a dump. -/
import Derived.Test.YtobldbodafaajaaGreatDoorMathRef9
import Derived.Test.YtobldbodafaajaaGreatDoorVal9
import Derived.Maps.AppendAt
import Derived.Deep.MidRow
import Derived.Lib.SlicesCompact
set_option linter.unusedVariables false
set_option linter.unusedSimpArgs false
namespace Go.Proofs.YtobldbodafaajaaGreatDoor
open Go.RowKit

structure Nod where
  mk ::
  kind : Int
  name : Int
  pub : List UInt8
  un : List Int
  hash : List UInt8
theorem Nod.eq_iff (a b : Nod) : a = b ↔ a.kind = b.kind ∧ a.name = b.name ∧ a.pub = b.pub ∧ a.un = b.un ∧ a.hash = b.hash := by
  cases a; cases b; simp
instance : DecidableEq Nod := fun a b => decidable_of_iff _ (Nod.eq_iff a b).symm
def blankN : Nod := ⟨0, 0, [], [], []⟩
def leafN (name : Int) (pub : List UInt8) : Nod := ⟨1, name, pub, [], []⟩
/-- The node at a place; nothing beyond. -/
def ats (t : List Nod) (x : Nat) : Nod := t.getD x blankN
def lvs (t : List Nod) : Nat := (t.length + 1) / 2
theorem ats_get {t : List Nod} {x : Nat} (h : x < t.length) : ats t x = t[x] := by
  unfold ats
  rw [List.getD_eq_getElem?_getD, List.getElem?_eq_getElem h]
  rfl
theorem ats_over {t : List Nod} {x : Nat} (h : t.length ≤ x) : ats t x = blankN := by
  unfold ats
  rw [List.getD_eq_getElem?_getD, List.getElem?_eq_none h]
  rfl
theorem ats_set (t : List Nod) (y : Nat) (n : Nod) (x : Nat) (h : y < t.length) : ats (t.set y n) x = if x = y then n else ats t x := by
  unfold ats
  rw [List.getD_eq_getElem?_getD, List.getElem?_set, List.getD_eq_getElem?_getD]
  by_cases e : y = x
  · subst e
    rw [if_pos rfl, if_pos rfl, if_pos h]
    rfl
  · rw [if_neg e, if_neg (fun h => e h.symm)]
theorem ats_rep (t : List Nod) (k x : Nat) : ats (t ++ List.replicate k blankN) x = ats t x := by
  unfold ats
  rw [List.getD_eq_getElem?_getD, List.getD_eq_getElem?_getD]
  by_cases h : x < t.length
  · rw [List.getElem?_append_left h]
  · rw [List.getElem?_append_right (by omega), List.getElem?_eq_none (l := t) (by omega), List.getElem?_replicate]
    split <;> rfl
theorem ats_take (t : List Nod) (k x : Nat) : ats (t.take k) x = if x < k then ats t x else blankN := by
  unfold ats
  rw [List.getD_eq_getElem?_getD, List.getD_eq_getElem?_getD]
  split
  · next h => rw [List.getElem?_take_of_lt h]
  · next h => rw [List.getElem?_take_eq_none (by omega)]; rfl
theorem ats_ext {t u : List Nod} (hl : t.length = u.length) (h : ∀ x, ats t x = ats u x) : t = u := by
  refine List.ext_getElem hl fun x h1 h2 => ?_
  have := h x
  rwa [ats_get h1, ats_get h2] at this

/-- May a name and a public half be? -/
def mayP (name : Int) (pub : List UInt8) : Prop := 0 ≤ name ∧ name ≤ 65535 ∧ pub.length = 32
instance (name : Int) (pub : List UInt8) : Decidable (mayP name pub) := by unfold mayP; infer_instance
def unP (t : List Nod) (a b : Int) (l : List Int) : Prop := l.Pairwise (· < ·) ∧ ∀ i ∈ l, a ≤ i ∧ i ≤ b ∧ (ats t (2 * i.toNat)).kind = 1
/-- Is a node right, at its place? -/
def okP (t : List Nod) (x : Nat) : Prop :=
  ats t x = blankN ∨
  ((ats t x).kind = 1 + (x : Int) % 2 ∧ mayP (ats t x).name (ats t x).pub ∧ ((ats t x).hash.length = 0 ∨ (ats t x).hash.length = 32) ∧
    ((ats t x).kind = 1 → (ats t x).un = []) ∧ ((ats t x).kind = 2 → (ats t x).name = 0 ∧ unP t (loV x) (hiV x) (ats t x).un))
/-- Is a tree right? K: the level of its root. -/
structure RightK (t : List Nod) (K : Nat) : Prop where
  mk ::
  le : K ≤ 10
  len : t.length = 2 ^ (K + 1) - 1
  ok : ∀ x, x < t.length → okP t x
  one : ∀ x y, x < y → y < t.length → (ats t x).kind = 1 → (ats t y).kind = 1 → (ats t x).name ≠ (ats t y).name
  used : ∃ x, x < t.length ∧ (ats t x).kind = 1
def RightP (t : List Nod) : Prop := ∃ K, RightK t K
theorem RightK.lv {t : List Nod} {K : Nat} (h : RightK t K) : lvs t = 2 ^ K := by
  unfold lvs
  rw [h.len]
  have := p2_pos K
  have := p2_succ K
  omega
theorem RightK.len2 {t : List Nod} {K : Nat} (h : RightK t K) : t.length = 2 * 2 ^ K - 1 := by rw [h.len, p2_succ]
/-- What a right tree's nodes are: everywhere. -/
theorem RightK.okA {t : List Nod} {K : Nat} (h : RightK t K) (x : Nat) : okP t x := by
  by_cases hx : x < t.length
  · exact h.ok x hx
  · exact .inl (ats_over (by omega))
theorem kind_blank {t : List Nod} {x : Nat} (h : okP t x) (hk : (ats t x).kind = 0) : ats t x = blankN := by
  rcases h with h | ⟨h, _⟩
  · exact h
  · omega
theorem RightK.even {t : List Nod} {K : Nat} (h : RightK t K) (i : Nat) : ats t (2 * i) = blankN ∨ ((ats t (2 * i)).kind = 1 ∧ (ats t (2 * i)).un = [] ∧ mayP (ats t (2 * i)).name (ats t (2 * i)).pub ∧ ((ats t (2 * i)).hash.length = 0 ∨ (ats t (2 * i)).hash.length = 32)) := by
  rcases h.okA (2 * i) with h1 | ⟨h1, h2, h3, h4, _⟩
  · exact .inl h1
  · have e : (ats t (2 * i)).kind = 1 := by rw [h1]; omega
    exact .inr ⟨e, h4 e, h2, h3⟩
theorem RightK.odd {t : List Nod} {K : Nat} (h : RightK t K) {x : Nat} (hx : x % 2 = 1) : ats t x = blankN ∨ ((ats t x).kind = 2 ∧ unP t (loV x) (hiV x) (ats t x).un) := by
  rcases h.okA x with h1 | ⟨h1, h2, h3, h4, h5⟩
  · exact .inl h1
  · have e : (ats t x).kind = 2 := by rw [h1]; omega
    exact .inr ⟨e, (h5 e).2⟩
/-- What stands below a node of a right tree's: its Un in places. -/
theorem RightK.unAt {t : List Nod} {K : Nat} (h : RightK t K) {j q : Nat} (hj : j ≤ 10) (hq : q < 2 ^ (10 - j)) (i : Int) (hi : i ∈ (ats t (nd j q)).un) :
    ∃ k : Nat, i = (k : Int) ∧ k / 2 ^ j = q ∧ (ats t (2 * k)).kind = 1 := by
  rcases h.okA (nd j q) with h1 | ⟨h1, h2, h3, h4, h5⟩
  · rw [h1] at hi; simp [blankN] at hi
  · by_cases e : (ats t (nd j q)).kind = 1
    · rw [h4 e] at hi; simp at hi
    · have e2 : (ats t (nd j q)).kind = 2 := by omega
      obtain ⟨a1, a2, a3⟩ := (h5 e2).2.2 i hi
      obtain ⟨l1, l2⟩ := lv_nd hj hq
      rw [l1] at a1
      rw [l2] at a2
      obtain ⟨k, rfl⟩ := Int.eq_ofNat_of_zero_le (show 0 ≤ i by omega)
      rw [Int.toNat_natCast] at a3
      refine ⟨k, rfl, (under_iff j q k).1 ⟨by omega, ?_⟩, a3⟩
      have := p2_pos j
      omega

/-- The leaf of a name. -/
def findN (t : List Nod) (name : Int) : Nat := (List.range (lvs t)).findIdx fun i => decide ((ats t (2 * i)).kind = 1 ∧ (ats t (2 * i)).name = name)
def findB (t : List Nod) (name : Int) : Bool := decide (findN t name < lvs t)
def findV (t : List Nod) (name : Int) : Int := if findB t name then (findN t name : Int) else 0
theorem range_findIdx_lt {n : Nat} {p : Nat → Bool} (h : (List.range n).findIdx p < n) : p ((List.range n).findIdx p) = true := by
  have := List.findIdx_getElem (p := p) (xs := List.range n) (w := by rw [List.length_range]; exact h)
  rwa [List.getElem_range] at this
theorem range_findIdx_not {n : Nat} {p : Nat → Bool} {i : Nat} (h : i < (List.range n).findIdx p) : p i = false := by
  have h2 : i < (List.range n).length := Nat.lt_of_lt_of_le h List.findIdx_le_length
  have := List.not_of_lt_findIdx (p := p) (xs := List.range n) h
  rw [List.getElem_range] at this
  simpa using this
theorem range_findIdx_le (n : Nat) (p : Nat → Bool) : (List.range n).findIdx p ≤ n := by
  have := List.findIdx_le_length (p := p) (xs := List.range n)
  rwa [List.length_range] at this
theorem range_findIdx_eq {n : Nat} {p : Nat → Bool} {i : Nat} (hi : i ≤ n) (h1 : i < n → p i = true) (h2 : ∀ k, k < i → p k = false) : (List.range n).findIdx p = i := by
  rcases Nat.lt_trichotomy ((List.range n).findIdx p) i with h | h | h
  · have := range_findIdx_lt (p := p) (n := n) (by omega)
    rw [h2 _ h] at this
    cases this
  · exact h
  · have h3 := range_findIdx_not h
    have h4 := range_findIdx_le n p
    rw [h1 (by omega)] at h3
    cases h3
/-- The first leaf that is blank. -/
def gapN (t : List Nod) : Nat := (List.range (lvs t)).findIdx fun i => decide ((ats t (2 * i)).kind = 0)

/-- A number more in a row that rises. -/
def cutI (l : List Int) (n : Int) : Nat := l.findIdx fun x => decide (n < x)
def putN (l : List Int) (n : Int) : List Int := l.take (cutI l n) ++ n :: l.drop (cutI l n)
def lgT (t : List Nod) : Nat := (lvs t).log2
/-- The nodes of a leaf's path. -/
def pathT (t : List Nod) (i : Nat) : List Nat := pathN (lgT t) 0 i
def wideT (t : List Nod) : List Nod := if gapN t = lvs t then t ++ List.replicate (t.length + 1) blankN else t
def toldN (n : Nod) (i : Nat) : Nod := ⟨n.kind, n.name, n.pub, putN n.un i, n.hash⟩
def toldT (o : List Nod) (i : Nat) (x : Nat) : List Nod := if (ats o x).kind = 2 then o.set x (toldN (ats o x) i) else o
def addT (t : List Nod) (name : Int) (pub : List UInt8) : List Nod :=
  (pathT (wideT t) (gapN t)).foldl (fun o x => toldT o (gapN t) x) ((wideT t).set (2 * gapN t) (leafN name pub))
def addE (t : List Nod) (name : Int) (pub : List UInt8) : Int :=
  if mayP name pub then (if findB t name then 12 else if gapN t = 1024 then 4 else 0) else 1
def addV (t : List Nod) (name : Int) (pub : List UInt8) : List Nod := if addE t name pub = 0 then addT t name pub else t
def addI (t : List Nod) (name : Int) (pub : List UInt8) : Int := if addE t name pub = 0 then (gapN t : Int) else 0

def thereP (t : List Nod) (i : Int) : Prop := 0 ≤ i ∧ i < lvs t ∧ (ats t (2 * i.toNat)).kind = 1
instance (t : List Nod) (i : Int) : Decidable (thereP t i) := by unfold thereP; infer_instance
def blankT (t : List Nod) (i : Nat) : List Nod := (pathT t i).foldl (fun o x => o.set x blankN) t
/-- Are all leaves from one on blank? -/
def emptyP (t : List Nod) (f : Nat) : Prop := ∀ i, f ≤ i → i < lvs t → (ats t (2 * i)).kind = 0
instance (t : List Nod) (f : Nat) : Decidable (emptyP t f) :=
  decidable_of_iff (∀ i, i < lvs t → f ≤ i → (ats t (2 * i)).kind = 0) ⟨fun h i h1 h2 => h i h2 h1, fun h i h1 h2 => h i h2 h1⟩
def shrinkT : Nat → List Nod → List Nod
  | 0, t => t
  | f + 1, t => if 1 < t.length ∧ emptyP t (lvs t / 2) then shrinkT f (t.take (t.length / 2)) else t
def goneT (t : List Nod) (i : Nat) : List Nod := (blankT t i).set (2 * i) blankN
def remE (t : List Nod) (i : Int) : Int := if thereP t i then (if emptyP (goneT t i.toNat) 0 then 13 else 0) else 11
def remV (t : List Nod) (i : Int) : List Nod := if remE t i = 0 then shrinkT 11 (goneT t i.toNat) else t
def updE (t : List Nod) (i : Int) (pub : List UInt8) : Int := if pub.length = 32 then (if thereP t i then 0 else 11) else 1
def updT (t : List Nod) (i : Nat) (pub : List UInt8) : List Nod := (blankT t i).set (2 * i) (leafN (ats t (2 * i)).name pub)
def updV (t : List Nod) (i : Int) (pub : List UInt8) : List Nod := if updE t i pub = 0 then updT t i.toNat pub else t
/-- What covers the leaves below a node. -/
def resF (t : List Nod) : Nat → Nat → List Int
  | 0, q => if (ats t (nd 0 q)).kind = 0 then [] else ((nd 0 q : Nat) : Int) :: (ats t (nd 0 q)).un.map (2 * ·)
  | j + 1, q => if (ats t (nd (j + 1) q)).kind = 0 then resF t j (2 * q) ++ resF t j (2 * q + 1) else ((nd (j + 1) q : Nat) : Int) :: (ats t (nd (j + 1) q)).un.map (2 * ·)
def resV (t : List Nod) (x : Int) : List Int := if 0 ≤ x ∧ x < t.length then resF t (lev x.toNat) (qOf x.toNat) else []
def smallP (t : List Nod) (m : Nat) : Prop := t.length ≤ m ∧ ∀ n ∈ t, n.pub.length ≤ 40 ∧ n.hash.length ≤ 40 ∧ n.un.length ≤ m
end Go.Proofs.YtobldbodafaajaaGreatDoor

/- The ratchet tree: what is at each place behind a leaf that is added, removed, changed. Nothing of a dump. -/
set_option linter.unusedVariables false
set_option linter.unusedSimpArgs false
namespace Go.Proofs.YtobldbodafaajaaGreatDoor
open Go.RowKit

theorem lg_pow {K : Nat} (h : K ≤ 10) : (2 ^ K).log2 = K := by
  have := lgN_pow K h
  unfold lgN at this
  rwa [Int.toNat_natCast] at this
theorem RightK.lg {t : List Nod} {K : Nat} (h : RightK t K) : lgT t = K := by
  unfold lgT
  rw [h.lv, lg_pow h.le]
/-- The nodes of a leaf's path. -/
theorem mem_path {K i x : Nat} : x ∈ pathN K 0 i ↔ ∃ j, 1 ≤ j ∧ j ≤ K ∧ x = nd j (i / 2 ^ j) := by
  unfold pathN
  rw [List.mem_map]
  constructor
  · rintro ⟨k, hk, rfl⟩
    rw [List.mem_range] at hk
    exact ⟨k + 1, by omega, by omega, by rw [show 0 + 1 + k = k + 1 by omega]⟩
  · rintro ⟨j, h1, h2, rfl⟩
    exact ⟨j - 1, by rw [List.mem_range]; omega, by rw [show 0 + 1 + (j - 1) = j by omega, show j - 1 + 1 = j by omega]⟩
theorem path_odd {K i x : Nat} (h : x ∈ pathN K 0 i) : x % 2 = 1 := by
  obtain ⟨j, h1, _, rfl⟩ := mem_path.1 h
  obtain ⟨j, rfl⟩ := Nat.exists_eq_add_of_le' h1
  exact nd_odd _ _
theorem path_lt {K i x : Nat} (hi : i < 2 ^ K) (h : x ∈ pathN K 0 i) : x < 2 ^ (K + 1) - 1 := by
  obtain ⟨j, h1, h2, rfl⟩ := mem_path.1 h
  refine nd_lt h2 ?_
  have := quot_lt (K := K) (j := 0) (q := i) (i := j) (by simpa using hi) (by omega)
  rwa [show K - (0 + j) = K - j by omega] at this
theorem path_nodup (K i : Nat) : (pathN K 0 i).Nodup := by
  unfold pathN
  refine List.Pairwise.map _ ?_ (List.nodup_range (n := K - 0))
  intro a b hab he
  have := (nd_inj he).1
  omega
/-- A node above the leaves is on a leaf's path just if the leaf is below it. -/
theorem path_iff {K j q i : Nat} (hj : j ≤ K) : nd j q ∈ pathN K 0 i ↔ 1 ≤ j ∧ i / 2 ^ j = q := by
  rw [mem_path]
  constructor
  · rintro ⟨j', h1, h2, e⟩
    obtain ⟨rfl, rfl⟩ := nd_inj e
    exact ⟨h1, rfl⟩
  · rintro ⟨h1, rfl⟩
    exact ⟨j, h1, hj, rfl⟩

/-- Nodes made blank, one by one. -/
theorem blank_len (l : List Nat) : ∀ t : List Nod, (l.foldl (fun o x => o.set x blankN) t).length = t.length := by
  induction l with
  | nil => intro t; rfl
  | cons a l ih => intro t; rw [List.foldl_cons, ih, List.length_set]
theorem blank_at (l : List Nat) : ∀ (t : List Nod) (x : Nat), (∀ y ∈ l, y < t.length) → ats (l.foldl (fun o x => o.set x blankN) t) x = if x ∈ l then blankN else ats t x := by
  induction l with
  | nil => intro t x _; simp
  | cons a l ih =>
    intro t x h
    rw [List.foldl_cons, ih (t.set a blankN) x (fun y hy => by rw [List.length_set]; exact h y (List.mem_cons_of_mem _ hy)), ats_set t a blankN x (h a List.mem_cons_self)]
    by_cases e : x = a
    · subst e; simp
    · simp [e]
theorem told_len (l : List Nat) (i : Nat) : ∀ t : List Nod, (l.foldl (fun o x => toldT o i x) t).length = t.length := by
  induction l with
  | nil => intro t; rfl
  | cons a l ih =>
    intro t
    rw [List.foldl_cons, ih]
    unfold toldT
    split
    · rw [List.length_set]
    · rfl
theorem told_one (t : List Nod) (i a x : Nat) (h : a < t.length) : ats (toldT t i a) x = if x = a ∧ (ats t a).kind = 2 then toldN (ats t a) i else ats t x := by
  unfold toldT
  by_cases hk : (ats t a).kind = 2
  · rw [if_pos hk, ats_set t a _ x h]
    by_cases e : x = a
    · rw [if_pos e, if_pos ⟨e, hk⟩]
    · rw [if_neg e, if_neg (fun h => e h.1)]
  · rw [if_neg hk, if_neg (fun h => hk h.2)]
theorem told_at9 (l : List Nat) (i : Nat) : ∀ (t : List Nod) (x : Nat), l.Nodup → (∀ y ∈ l, y < t.length) →
    ats (l.foldl (fun o x => toldT o i x) t) x = if x ∈ l ∧ (ats t x).kind = 2 then toldN (ats t x) i else ats t x := by
  induction l with
  | nil => intro t x _ _; simp
  | cons a l ih =>
    intro t x hn h
    have ha := h a List.mem_cons_self
    rw [List.nodup_cons] at hn
    have hlen : (toldT t i a).length = t.length := by
      have := told_len [a] i t
      simpa using this
    rw [List.foldl_cons, ih (toldT t i a) x hn.2 (fun y hy => by rw [hlen]; exact h y (List.mem_cons_of_mem _ hy)), told_one t i a x ha]
    by_cases e : x = a
    · subst e
      have e1 : ¬ (x ∈ l ∧ (if x = x ∧ (ats t x).kind = 2 then toldN (ats t x) i else ats t x).kind = 2) := fun h => hn.1 h.1
      rw [if_neg e1]
      by_cases hk : (ats t x).kind = 2
      · rw [if_pos ⟨rfl, hk⟩, if_pos ⟨List.mem_cons_self, hk⟩]
      · rw [if_neg (fun h => hk h.2), if_neg (fun h => hk h.2)]
    · have e1 : (if x = a ∧ (ats t a).kind = 2 then toldN (ats t a) i else ats t x) = ats t x := if_neg (fun h => e h.1)
      rw [e1]
      by_cases hm : x ∈ l ∧ (ats t x).kind = 2
      · rw [if_pos hm, if_pos ⟨List.mem_cons_of_mem _ hm.1, hm.2⟩]
      · rw [if_neg hm, if_neg (fun h => hm ⟨(List.mem_cons.1 h.1).resolve_left e, h.2⟩)]

/-- Behind a gap. -/
theorem gap_le (t : List Nod) : gapN t ≤ lvs t := range_findIdx_le _ _
theorem gap_blank {t : List Nod} (h : gapN t < lvs t) : (ats t (2 * gapN t)).kind = 0 := by
  have := range_findIdx_lt h
  exact of_decide_eq_true this
theorem gap_used {t : List Nod} {i : Nat} (h : i < gapN t) : (ats t (2 * i)).kind ≠ 0 := by
  have := range_findIdx_not h
  exact of_decide_eq_false this
theorem gap_eq {t : List Nod} {i : Nat} (hi : i ≤ lvs t) (h1 : i < lvs t → (ats t (2 * i)).kind = 0) (h2 : ∀ k, k < i → (ats t (2 * k)).kind ≠ 0) : gapN t = i :=
  range_findIdx_eq hi (fun h => decide_eq_true (h1 h)) (fun k hk => decide_eq_false (h2 k hk))
/-- The gap is blank in any case: beyond the tree too. -/
theorem RightK.gap0 {t : List Nod} {K : Nat} (h : RightK t K) : ats t (2 * gapN t) = blankN := by
  by_cases hg : gapN t < lvs t
  · exact kind_blank (h.okA _) (gap_blank hg)
  · refine ats_over ?_
    have := gap_le t
    have := h.lv
    have := h.len2
    have := p2_pos K
    omega
/-- The tree in which the leaf is laid: its level, its length. -/
def wK (t : List Nod) (K : Nat) : Nat := if gapN t = lvs t then K + 1 else K
theorem RightK.wide {t : List Nod} {K : Nat} (h : RightK t K) : (wideT t).length = 2 ^ (wK t K + 1) - 1 ∧ lvs (wideT t) = 2 ^ wK t K ∧ gapN t < 2 ^ wK t K ∧ (∀ x, ats (wideT t) x = ats t x) ∧ K ≤ wK t K := by
  have h1 := h.len2
  have h2 := h.lv
  have h3 := p2_pos K
  have h4 := p2_succ K
  have h5 := gap_le t
  unfold wideT wK
  unfold lvs at h2 h5 ⊢
  by_cases hg : gapN t = (t.length + 1) / 2
  · rw [if_pos hg, if_pos hg]
    have h6 := p2_succ (K + 1)
    refine ⟨?_, ?_, ?_, fun x => ats_rep _ _ _, by omega⟩
    · rw [List.length_append, List.length_replicate]; omega
    · rw [List.length_append, List.length_replicate]; omega
    · omega
  · rw [if_neg hg, if_neg hg]
    exact ⟨by omega, by omega, by omega, fun x => rfl, by omega⟩
theorem RightK.wlg {t : List Nod} {K : Nat} (h : RightK t K) (hK : wK t K ≤ 10) : lgT (wideT t) = wK t K := by
  unfold lgT
  rw [h.wide.2.1, lg_pow hK]
theorem RightK.gap1024 {t : List Nod} {K : Nat} (h : RightK t K) (hg : gapN t ≠ 1024) : wK t K ≤ 10 := by
  unfold wK
  have h1 := h.le
  have h2 := h.lv
  split
  · next e =>
    rcases Nat.lt_or_eq_of_le h1 with h3 | h3
    · omega
    · subst h3
      rw [e, h2] at hg
      exact absurd rfl hg
  · exact h1
/-- WHAT IS ADDED: at each place. -/
theorem RightK.addAt {t : List Nod} {K : Nat} (h : RightK t K) (hg : gapN t ≠ 1024) (name : Int) (pub : List UInt8) (x : Nat) :
    ats (addT t name pub) x = if x = 2 * gapN t then leafN name pub else if x ∈ pathN (wK t K) 0 (gapN t) ∧ (ats t x).kind = 2 then toldN (ats t x) (gapN t) else ats t x := by
  obtain ⟨w1, w2, w3, w4, w5⟩ := h.wide
  have hK := h.gap1024 hg
  have hlg := h.wlg hK
  have h2 := p2_succ (wK t K)
  have hl : 2 * gapN t < (wideT t).length := by omega
  unfold addT pathT
  rw [hlg, told_at9 _ _ _ x (path_nodup _ _) (fun y hy => by rw [List.length_set, w1]; exact path_lt w3 hy), ats_set _ _ _ x hl]
  by_cases e : x = 2 * gapN t
  · rw [if_pos e, if_pos e, if_neg]
    rintro ⟨hm, _⟩
    have := path_odd hm
    omega
  · rw [if_neg e, if_neg e, w4 x]
theorem RightK.addLen {t : List Nod} {K : Nat} (h : RightK t K) (name : Int) (pub : List UInt8) : (addT t name pub).length = 2 ^ (wK t K + 1) - 1 := by
  unfold addT
  rw [told_len, List.length_set, h.wide.1]
/-- WHAT IS GONE, and WHAT IS CHANGED: at each place. -/
theorem RightK.blankLen {t : List Nod} (i : Nat) : (blankT t i).length = t.length := blank_len _ _
theorem RightK.blankAt {t : List Nod} {K : Nat} (h : RightK t K) {i : Nat} (hi : i < 2 ^ K) (x : Nat) : ats (blankT t i) x = if x ∈ pathN K 0 i then blankN else ats t x := by
  unfold blankT pathT
  rw [h.lg]
  exact blank_at _ _ x (fun y hy => by rw [h.len]; exact path_lt hi hy)
theorem RightK.goneAt {t : List Nod} {K : Nat} (h : RightK t K) {i : Nat} (hi : i < 2 ^ K) (x : Nat) : ats (goneT t i) x = if x = 2 * i ∨ x ∈ pathN K 0 i then blankN else ats t x := by
  have h1 := h.len2
  unfold goneT
  rw [ats_set _ _ _ x (by rw [RightK.blankLen, h1]; omega), h.blankAt hi x]
  by_cases e : x = 2 * i
  · rw [if_pos e, if_pos (.inl e)]
  · rw [if_neg e]
    by_cases hm : x ∈ pathN K 0 i
    · rw [if_pos hm, if_pos (.inr hm)]
    · rw [if_neg hm, if_neg (fun h => h.elim e hm)]
theorem RightK.goneLen {t : List Nod} (i : Nat) : (goneT t i).length = t.length := by
  unfold goneT
  rw [List.length_set, RightK.blankLen]
theorem RightK.updAt {t : List Nod} {K : Nat} (h : RightK t K) {i : Nat} (hi : i < 2 ^ K) (pub : List UInt8) (x : Nat) :
    ats (updT t i pub) x = if x = 2 * i then leafN (ats t (2 * i)).name pub else if x ∈ pathN K 0 i then blankN else ats t x := by
  have h1 := h.len2
  unfold updT
  rw [ats_set _ _ _ x (by rw [RightK.blankLen, h1]; omega), h.blankAt hi x]
theorem RightK.updLen {t : List Nod} (i : Nat) (pub : List UInt8) : (updT t i pub).length = t.length := by
  unfold updT
  rw [List.length_set, RightK.blankLen]
end Go.Proofs.YtobldbodafaajaaGreatDoor

/- The ratchet tree: trees stay right. Nothing of a dump. -/
set_option linter.unusedVariables false
set_option linter.unusedSimpArgs false
namespace Go.Proofs.YtobldbodafaajaaGreatDoor
open Go.RowKit

/-- A tree that is right but for that some leaf is used. -/
structure NearK (t : List Nod) (K : Nat) : Prop where
  mk ::
  le : K ≤ 10
  len : t.length = 2 ^ (K + 1) - 1
  ok : ∀ x, x < t.length → okP t x
  one : ∀ x y, x < y → y < t.length → (ats t x).kind = 1 → (ats t y).kind = 1 → (ats t x).name ≠ (ats t y).name
theorem NearK.right {t : List Nod} {K : Nat} (h : NearK t K) (hu : ∃ x, x < t.length ∧ (ats t x).kind = 1) : RightK t K := ⟨h.le, h.len, h.ok, h.one, hu⟩
theorem RightK.near {t : List Nod} {K : Nat} (h : RightK t K) : NearK t K := ⟨h.le, h.len, h.ok, h.one⟩
theorem RightK.lt_of {t : List Nod} {x : Nat} (h : (ats t x).kind ≠ 0) : x < t.length := by
  refine Nat.lt_of_not_le fun hx => h ?_
  rw [ats_over hx]
  rfl
/-- A node whose kind is a leaf's stands at an even place. -/
theorem ok_even {t : List Nod} {x : Nat} (h : okP t x) (hk : (ats t x).kind = 1) : x % 2 = 0 := by
  rcases h with h | ⟨h, _⟩
  · rw [h] at hk; cases hk
  · omega
/-- A node that is the same, over leaves that are still used. -/
theorem ok_keep {t u : List Nod} {x : Nat} (h : okP t x) (he : ats u x = ats t x) (hk : ∀ k : Nat, (k : Int) ∈ (ats t x).un → (ats t (2 * k)).kind = 1 → (ats u (2 * k)).kind = 1) (hlo : 0 ≤ loV x) : okP u x := by
  rcases h with h1 | ⟨h1, h2, h3, h4, h5⟩
  · exact .inl (by rw [he, h1])
  · refine .inr ?_
    rw [he]
    refine ⟨h1, h2, h3, h4, fun e => ⟨(h5 e).1, (h5 e).2.1, fun i hi => ?_⟩⟩
    obtain ⟨a1, a2, a3⟩ := (h5 e).2.2 i hi
    obtain ⟨k, rfl⟩ := Int.eq_ofNat_of_zero_le (show 0 ≤ i by omega)
    rw [Int.toNat_natCast] at a3 ⊢
    exact ⟨a1, a2, hk k hi a3⟩
theorem lo_nonneg (x : Int) : 0 ≤ loV x := by
  unfold loV
  split
  · omega
  · omega

theorem put_mem (l : List Int) (n i : Int) : i ∈ putN l n ↔ i ∈ l ∨ i = n := by
  have e := List.take_append_drop (cutI l n) l
  unfold putN
  rw [List.mem_append, List.mem_cons]
  constructor
  · rintro (h | h | h)
    · exact .inl (List.mem_of_mem_take h)
    · exact .inr h
    · exact .inl (List.mem_of_mem_drop h)
  · rintro (h | h)
    · rw [← e, List.mem_append] at h
      rcases h with h | h
      · exact .inl h
      · exact .inr (.inr h)
    · exact .inr (.inl h)
theorem cut_le {l : List Int} {n : Int} {k : Nat} (h : k < cutI l n) (hk : k < l.length) : l[k] ≤ n := by
  have := List.not_of_lt_findIdx (p := fun x => decide (n < x)) (xs := l) h
  have := of_decide_eq_false (by simpa using this : decide (n < l[k]) = false)
  omega
theorem cut_gt {l : List Int} {n : Int} (h : cutI l n < l.length) : n < l[cutI l n] := by
  have := List.findIdx_getElem (p := fun x => decide (n < x)) (xs := l) (w := h)
  exact of_decide_eq_true this
theorem cut_len (l : List Int) (n : Int) : cutI l n ≤ l.length := List.findIdx_le_length
theorem put_rising {l : List Int} {n : Int} (h : l.Pairwise (· < ·)) (hn : n ∉ l) : (putN l n).Pairwise (· < ·) := by
  have hlow : ∀ a ∈ l.take (cutI l n), a < n := fun a ha => by
    obtain ⟨k, hk, rfl⟩ := List.getElem_of_mem ha
    rw [List.length_take] at hk
    rw [List.getElem_take]
    have h1 := cut_le (l := l) (n := n) (k := k) (by omega) (by omega)
    have h2 : l[k] ≠ n := fun e => hn (e ▸ List.getElem_mem _)
    omega
  have hhigh : ∀ b ∈ l.drop (cutI l n), n < b := fun b hb => by
    obtain ⟨k, hk, rfl⟩ := List.getElem_of_mem hb
    rw [List.length_drop] at hk
    rw [List.getElem_drop]
    have h1 := cut_gt (l := l) (n := n) (by omega)
    by_cases e : k = 0
    · subst e
      exact h1
    · have h2 := (List.pairwise_iff_getElem.1 h) (cutI l n) (cutI l n + k) (by omega) (by omega) (by omega)
      omega
  unfold putN
  rw [List.pairwise_append, List.pairwise_cons]
  refine ⟨h.sublist (List.take_sublist _ _), ⟨fun a ha => hhigh a ha, h.sublist (List.drop_sublist _ _)⟩, fun a ha b hb => ?_⟩
  rcases List.mem_cons.1 hb with rfl | hb
  · exact hlow a ha
  · have := hlow a ha
    have := hhigh b hb
    omega

theorem find_no {t : List Nod} {name : Int} (h : findB t name = false) : ∀ k, k < lvs t → ¬ ((ats t (2 * k)).kind = 1 ∧ (ats t (2 * k)).name = name) := by
  intro k hk
  have h1 : ¬ findN t name < lvs t := of_decide_eq_false h
  have h2 := range_findIdx_not (n := lvs t) (p := fun i => decide ((ats t (2 * i)).kind = 1 ∧ (ats t (2 * i)).name = name)) (i := k) (by unfold findN at h1; omega)
  exact of_decide_eq_false h2
theorem find_yes {t : List Nod} {name : Int} (h : findB t name = true) : findN t name < lvs t ∧ (ats t (2 * findN t name)).kind = 1 ∧ (ats t (2 * findN t name)).name = name := by
  have h1 : findN t name < lvs t := of_decide_eq_true h
  have h2 := range_findIdx_lt h1
  exact ⟨h1, of_decide_eq_true h2⟩
theorem find_at {t : List Nod} {K : Nat} (h : RightK t K) {i : Nat} (hk : (ats t (2 * i)).kind = 1) : findB t (ats t (2 * i)).name = true ∧ findN t (ats t (2 * i)).name = i := by
  have hl := RightK.lt_of (t := t) (x := 2 * i) (by rw [hk]; decide)
  have hi : i < lvs t := by unfold lvs; omega
  have e : findN t (ats t (2 * i)).name = i := by
    refine range_findIdx_eq (by omega) (fun _ => decide_eq_true ⟨hk, rfl⟩) (fun k hki => decide_eq_false fun hc => ?_)
    exact h.one (2 * k) (2 * i) (by omega) hl hc.1 hk hc.2
  exact ⟨by unfold findB; rw [e]; exact decide_eq_true hi, e⟩
theorem find_none {t : List Nod} {name : Int} (h : ∀ k, k < lvs t → ¬ ((ats t (2 * k)).kind = 1 ∧ (ats t (2 * k)).name = name)) : findB t name = false := by
  refine decide_eq_false fun hl => ?_
  have := range_findIdx_lt hl
  exact h _ hl (of_decide_eq_true this)

/-- A node of a path that is told of the leaf. -/
theorem path_lohi {K i x : Nat} (hK : K ≤ 10) (hi : i < 2 ^ K) (h : x ∈ pathN K 0 i) : loV x ≤ i ∧ (i : Int) ≤ hiV x := by
  obtain ⟨j, h1, h2, rfl⟩ := mem_path.1 h
  have hq : i / 2 ^ j < 2 ^ (K - j) := by
    have := quot_lt (K := K) (j := 0) (q := i) (i := j) (by simpa using hi) (by omega)
    rwa [show K - (0 + j) = K - j by omega] at this
  obtain ⟨_, s2, s3⟩ := nd_small hK h2 hq
  obtain ⟨l1, l2⟩ := lv_nd s2 s3
  rw [l1, l2]
  have := (under_iff j (i / 2 ^ j) i).2 rfl
  have := p2_pos j
  omega

/-- A LEAF MORE: the tree is right. -/
theorem RightK.add {t : List Nod} {K : Nat} (h : RightK t K) {name : Int} {pub : List UInt8} (hm : mayP name pub) (hf : findB t name = false) (hg : gapN t ≠ 1024) : RightK (addT t name pub) (wK t K) := by
  have hA := h.addAt hg name pub
  have hL := h.addLen name pub
  have hK := h.gap1024 hg
  obtain ⟨w1, w2, w3, w4, w5⟩ := h.wide
  have g0 := h.gap0
  have hp := p2_succ (wK t K)
  have hleaf : ∀ k : Nat, (ats t (2 * k)).kind = 1 → ats (addT t name pub) (2 * k) = ats t (2 * k) := fun k hk => by
    rw [hA, if_neg, if_neg]
    · rintro ⟨hm, _⟩
      have := path_odd hm
      omega
    · intro e
      have : k = gapN t := by omega
      subst this
      rw [g0] at hk
      cases hk
  have hgun : ∀ x : Nat, ((gapN t : Nat) : Int) ∉ (ats t x).un := fun x hx => by
    have hxl : x < t.length := by
      refine Nat.lt_of_not_le fun hl => ?_
      rw [ats_over hl] at hx
      simp [blankN] at hx
    obtain ⟨j, q, rfl, hj, hq⟩ := nd_of K x (by rw [← h.len]; exact hxl)
    obtain ⟨_, s2, s3⟩ := nd_small h.le hj hq
    obtain ⟨k, e, _, hk⟩ := h.unAt s2 s3 _ hx
    have : k = gapN t := by omega
    subst this
    rw [g0] at hk
    cases hk
  refine ⟨hK, hL, fun x hx => ?_, fun x y hxy hy hx1 hy1 => ?_, ⟨2 * gapN t, by rw [hL]; omega, by rw [hA, if_pos rfl]; rfl⟩⟩
  · by_cases e : x = 2 * gapN t
    · refine .inr ?_
      rw [hA, if_pos e]
      exact ⟨by rw [e]; show (1 : Int) = _; omega, hm, .inl rfl, fun _ => rfl, fun h2 => absurd h2 (show ¬ (1 : Int) = 2 by decide)⟩
    · by_cases hm2 : x ∈ pathN (wK t K) 0 (gapN t) ∧ (ats t x).kind = 2
      · refine .inr ?_
        rw [hA, if_neg e, if_pos hm2]
        rcases h.okA x with h1 | ⟨h1, h2, h3, h4, h5⟩
        · rw [h1] at hm2; exact absurd hm2.2 (by decide)
        · refine ⟨h1, h2, h3, fun e1 => absurd (e1.symm.trans hm2.2) (by decide), fun _ => ⟨(h5 hm2.2).1, put_rising (h5 hm2.2).2.1 (hgun x), fun i hi => ?_⟩⟩
          rcases (put_mem _ _ _).1 hi with hi | rfl
          · obtain ⟨a1, a2, a3⟩ := (h5 hm2.2).2.2 i hi
            obtain ⟨k, rfl⟩ := Int.eq_ofNat_of_zero_le (show 0 ≤ i by have := lo_nonneg x; omega)
            rw [Int.toNat_natCast] at a3 ⊢
            exact ⟨a1, a2, by rw [hleaf k a3]; exact a3⟩
          · obtain ⟨b1, b2⟩ := path_lohi hK w3 hm2.1
            rw [Int.toNat_natCast]
            exact ⟨b1, b2, by rw [hA, if_pos rfl]; rfl⟩
      · refine ok_keep (h.okA x) (by rw [hA, if_neg e, if_neg hm2]) (fun k _ hk => by rw [hleaf k hk]; exact hk) (lo_nonneg _)
  · have hk : ∀ z, z ≠ 2 * gapN t → (ats (addT t name pub) z).kind = 1 → ats (addT t name pub) z = ats t z ∧ (ats t z).kind = 1 ∧ (ats t z).name ≠ name := fun z hz h1 => by
      have ee : ats (addT t name pub) z = ats t z := by
        rw [hA, if_neg hz] at h1 ⊢
        by_cases hm2 : z ∈ pathN (wK t K) 0 (gapN t) ∧ (ats t z).kind = 2
        · rw [if_pos hm2] at h1
          exact absurd (h1.symm.trans hm2.2) (by decide)
        · rw [if_neg hm2]
      rw [ee] at h1
      refine ⟨ee, h1, fun hn => ?_⟩
      have hzl := RightK.lt_of (t := t) (x := z) (by rw [h1]; decide)
      have hze := ok_even (h.okA z) h1
      have := find_no hf (z / 2) (by unfold lvs; omega)
      rw [show 2 * (z / 2) = z by omega] at this
      exact this ⟨h1, hn⟩
    by_cases ex : x = 2 * gapN t
    · obtain ⟨e1, e2, e3⟩ := hk y (by omega) hy1
      rw [e1, ex, hA, if_pos rfl]
      exact fun e => e3 e.symm
    · obtain ⟨e1, e2, e3⟩ := hk x ex hx1
      by_cases ey : y = 2 * gapN t
      · rw [e1, ey, hA, if_pos rfl]
        exact e3
      · obtain ⟨d1, d2, d3⟩ := hk y ey hy1
        rw [e1, d1]
        exact h.one x y hxy (RightK.lt_of (by rw [d2]; decide)) e2 d2

/-- A node that stands over no leaf of a path doesn't tell it. -/
theorem RightK.unOff {t : List Nod} {K : Nat} (h : RightK t K) {i x : Nat} (hx : x ≠ 2 * i) (hp : x ∉ pathN K 0 i) : (i : Int) ∉ (ats t x).un := fun hi => by
  have hxl : x < t.length := by
    refine Nat.lt_of_not_le fun hl => ?_
    rw [ats_over hl] at hi
    simp [blankN] at hi
  obtain ⟨j, q, rfl, hj, hq⟩ := nd_of K x (by rw [← h.len]; exact hxl)
  obtain ⟨_, s2, s3⟩ := nd_small h.le hj hq
  obtain ⟨k, e, h1, hk⟩ := h.unAt s2 s3 _ hi
  have : k = i := by omega
  subst this
  by_cases h0 : j = 0
  · subst h0
    rw [nd_leaf] at hx
    simp at h1
    omega
  · exact hp ((path_iff hj).2 ⟨by omega, h1⟩)
/-- A leaf and its path made blank: near right. -/
theorem RightK.gone {t : List Nod} {K : Nat} (h : RightK t K) {i : Nat} (hi : i < 2 ^ K) : NearK (goneT t i) K := by
  have hA := h.goneAt hi
  have hL := RightK.goneLen (t := t) i
  refine ⟨h.le, by rw [hL, h.len], fun x hx => ?_, fun x y hxy hy hx1 hy1 => ?_⟩
  · by_cases e : x = 2 * i ∨ x ∈ pathN K 0 i
    · exact .inl (by rw [hA, if_pos e])
    · refine ok_keep (h.okA x) (by rw [hA, if_neg e]) (fun k hk1 hk => ?_) (lo_nonneg _)
      rw [hA, if_neg]
      · exact hk
      · rintro (e2 | e2)
        · have : k = i := by omega
          subst this
          exact h.unOff (fun h => e (.inl h)) (fun h => e (.inr h)) hk1
        · have := path_odd e2
          omega
  · have hk : ∀ z, (ats (goneT t i) z).kind = 1 → ats (goneT t i) z = ats t z := fun z h1 => by
      rw [hA] at h1 ⊢
      split at h1
      · cases h1
      · next e => rw [if_neg e]
    have ex := hk x hx1
    have ey := hk y hy1
    rw [ex] at hx1
    rw [ey] at hy1
    rw [ex, ey]
    exact h.one x y hxy (by rw [← hL]; exact hy) hx1 hy1
/-- A LEAF CHANGED: the tree is right. -/
theorem RightK.upd {t : List Nod} {K : Nat} (h : RightK t K) {i : Nat} (hk : (ats t (2 * i)).kind = 1) {pub : List UInt8} (hp : pub.length = 32) : RightK (updT t i pub) K := by
  have hi : i < 2 ^ K := by
    have h1 := RightK.lt_of (t := t) (x := 2 * i) (by rw [hk]; decide)
    have h2 := h.len2
    omega
  have hA := h.updAt hi pub
  have hL := RightK.updLen (t := t) i pub
  have hme : mayP (ats t (2 * i)).name pub := by
    rcases h.even i with e | ⟨_, _, e, _⟩
    · rw [e] at hk; cases hk
    · exact ⟨e.1, e.2.1, hp⟩
  refine ⟨h.le, by rw [hL, h.len], fun x hx => ?_, fun x y hxy hy hx1 hy1 => ?_, ⟨2 * i, by rw [hL]; exact RightK.lt_of (by rw [hk]; decide), by rw [hA, if_pos rfl]; rfl⟩⟩
  · by_cases e1 : x = 2 * i
    · refine .inr ?_
      rw [hA, if_pos e1]
      exact ⟨by rw [e1]; show (1 : Int) = _; omega, hme, .inl rfl, fun _ => rfl, fun h2 => absurd h2 (show ¬ (1 : Int) = 2 by decide)⟩
    · by_cases e2 : x ∈ pathN K 0 i
      · exact .inl (by rw [hA, if_neg e1, if_pos e2])
      · refine ok_keep (h.okA x) (by rw [hA, if_neg e1, if_neg e2]) (fun k hk1 hk => ?_) (lo_nonneg _)
        rw [hA]
        by_cases e3 : 2 * k = 2 * i
        · rw [if_pos e3]; rfl
        · rw [if_neg e3, if_neg (fun hm => by have := path_odd hm; omega)]
          exact hk
  · have hk : ∀ z, (ats (updT t i pub) z).kind = 1 → (ats t z).kind = 1 ∧ (ats (updT t i pub) z).name = (ats t z).name := fun z h1 => by
      rw [hA] at h1 ⊢
      by_cases e1 : z = 2 * i
      · rw [if_pos e1, e1]
        exact ⟨hk, rfl⟩
      · rw [if_neg e1] at h1 ⊢
        split at h1
        · cases h1
        · next e => rw [if_neg e]; exact ⟨h1, rfl⟩
    rw [(hk x hx1).2, (hk y hy1).2]
    exact h.one x y hxy (by rw [← hL]; exact hy) (hk x hx1).1 (hk y hy1).1

/-- The tree is cut as long as its right half is empty. -/
theorem shrink_spec : ∀ (f K : Nat) (t : List Nod), K ≤ f → t.length = 2 ^ (K + 1) - 1 →
    ∃ K', K' ≤ K ∧ shrinkT f t = t.take (2 ^ (K' + 1) - 1) ∧ (∀ i, 2 ^ K' ≤ i → i < 2 ^ K → (ats t (2 * i)).kind = 0) ∧ (K' = 0 ∨ ∃ i, 2 ^ (K' - 1) ≤ i ∧ i < 2 ^ K' ∧ (ats t (2 * i)).kind ≠ 0)
  | 0, K, t, hK, hl => by
    obtain rfl : K = 0 := by omega
    refine ⟨0, Nat.le_refl _, ?_, fun i h1 h2 => by omega, .inl rfl⟩
    unfold shrinkT
    rw [List.take_of_length_le (by omega)]
  | f + 1, K, t, hK, hl => by
    unfold shrinkT
    have hp := p2_succ K
    have hp1 := p2_pos K
    have hlv : lvs t = 2 ^ K := by unfold lvs; omega
    by_cases hc : 1 < t.length ∧ emptyP t (lvs t / 2)
    · rw [if_pos hc]
      cases K with
      | zero => simp at hl; omega
      | succ K =>
        have hq := p2_succ K
        have hq1 := p2_pos K
        have hhalf : t.length / 2 = 2 ^ (K + 1) - 1 := by omega
        have hlv2 : lvs t / 2 = 2 ^ K := by omega
        have hA := ats_take t (t.length / 2)
        obtain ⟨K', h1, h2, h3, h4⟩ := shrink_spec f K (t.take (t.length / 2)) (by omega) (by rw [List.length_take]; omega)
        have hpk : 2 ^ K' ≤ 2 ^ K := Nat.pow_le_pow_right (by omega) h1
        refine ⟨K', by omega, ?_, fun i a1 a2 => ?_, ?_⟩
        · rw [h2, List.take_take]
          congr 1
          have := p2_succ K'
          omega
        · by_cases hi : i < 2 ^ K
          · have := h3 i a1 hi
            rw [hA, if_pos (by omega)] at this
            exact this
          · exact hc.2 i (by omega) (by omega)
        · rcases h4 with h4 | ⟨i, b1, b2, b3⟩
          · exact .inl h4
          · rw [hA, if_pos (by omega)] at b3
            exact .inr ⟨i, b1, b2, b3⟩
    · rw [if_neg hc]
      refine ⟨K, Nat.le_refl _, by rw [List.take_of_length_le (by omega)], fun i h1 h2 => by omega, ?_⟩
      cases K with
      | zero => exact .inl rfl
      | succ K =>
        have hq := p2_succ K
        have hq1 := p2_pos K
        refine .inr ?_
        have hne : ¬ emptyP t (lvs t / 2) := fun h => hc ⟨by omega, h⟩
        rw [show lvs t / 2 = 2 ^ K by omega] at hne
        refine Classical.byContradiction fun hno => hne fun i a1 a2 => ?_
        refine Classical.byContradiction fun hk => hno ⟨i, by simpa using a1, by omega, hk⟩
theorem NearK.cut {t : List Nod} {K K' : Nat} (h : NearK t K) (hK : K' ≤ K) : NearK (t.take (2 ^ (K' + 1) - 1)) K' := by
  have hp : 2 ^ (K' + 1) ≤ 2 ^ (K + 1) := Nat.pow_le_pow_right (by omega) (by omega)
  have hl : (t.take (2 ^ (K' + 1) - 1)).length = 2 ^ (K' + 1) - 1 := by rw [List.length_take, h.len]; omega
  have hA := ats_take t (2 ^ (K' + 1) - 1)
  have hle := h.le
  refine ⟨by omega, hl, fun x hx => ?_, fun x y hxy hy hx1 hy1 => ?_⟩
  · rw [hl] at hx
    have hok := h.ok x (by rw [h.len]; omega)
    refine ok_keep hok (by rw [hA, if_pos hx]) (fun k hk1 hk => ?_) (lo_nonneg _)
    rw [hA, if_pos]
    · exact hk
    obtain ⟨j, q, rfl, hj, hq⟩ := nd_of K' x hx
    obtain ⟨_, s2, s3⟩ := nd_small (K := K') (by omega) hj hq
    rcases hok with h1 | ⟨h1, h2, h3, h4, h5⟩
    · rw [h1] at hk1; simp [blankN] at hk1
    · by_cases e : (ats t (nd j q)).kind = 1
      · rw [h4 e] at hk1; simp at hk1
      · obtain ⟨a1, a2, _⟩ := (h5 (by omega)).2.2 _ hk1
        obtain ⟨l1, l2⟩ := lv_nd s2 s3
        rw [l2] at a2
        have h6 : 2 ^ j * q + 2 ^ j - 1 < 2 ^ K' := by
          have e1 : 2 ^ K' = 2 ^ j * 2 ^ (K' - j) := by rw [← Nat.pow_add]; congr 1; omega
          have e2 : 2 ^ j * (q + 1) ≤ 2 ^ K' := by rw [e1]; exact Nat.mul_le_mul_left _ hq
          rw [Nat.mul_add, Nat.mul_one] at e2
          have := p2_pos j
          omega
        have := p2_succ K'
        have := p2_pos j
        omega
  · rw [hl] at hy
    rw [hA, if_pos (by omega)] at hx1 ⊢
    rw [hA, if_pos hy] at hy1 ⊢
    exact h.one x y hxy (by rw [h.len]; omega) hx1 hy1
/-- A LEAF LESS: the tree is right, of a level K'; its leaves are those that were. -/
theorem RightK.rem {t : List Nod} {K : Nat} (h : RightK t K) {i : Nat} (hi : i < 2 ^ K) (hne : ¬ emptyP (goneT t i) 0) :
    ∃ K', K' ≤ K ∧ RightK (shrinkT 11 (goneT t i)) K' ∧ (∀ x, ats (shrinkT 11 (goneT t i)) x = if x < 2 ^ (K' + 1) - 1 then (if x = 2 * i ∨ x ∈ pathN K 0 i then blankN else ats t x) else blankN) ∧
      (∀ k, ats (shrinkT 11 (goneT t i)) (2 * k) = if k = i then blankN else ats t (2 * k)) ∧ (K' = 0 ∨ ∃ k, 2 ^ (K' - 1) ≤ k ∧ k < 2 ^ K' ∧ (ats (shrinkT 11 (goneT t i)) (2 * k)).kind = 1) := by
  have hn := h.gone hi
  have hA := h.goneAt hi
  have hle := h.le
  obtain ⟨K', h1, h2, h3, h4⟩ := shrink_spec 11 K (goneT t i) (by omega) hn.len
  have hc := hn.cut h1
  rw [← h2] at hc
  have hB : ∀ x, ats (shrinkT 11 (goneT t i)) x = if x < 2 ^ (K' + 1) - 1 then ats (goneT t i) x else blankN := fun x => by rw [h2, ats_take]
  have hp : 2 ^ (K' + 1) ≤ 2 ^ (K + 1) := Nat.pow_le_pow_right (by omega) (by omega)
  have q1 := p2_succ K
  have q2 := p2_succ K'
  have q3 := p2_pos K'
  have hlf : ∀ k, ats (shrinkT 11 (goneT t i)) (2 * k) = ats (goneT t i) (2 * k) := fun k => by
    rw [hB]
    split
    · rfl
    · next hk =>
      by_cases hk2 : k < 2 ^ K
      · have e := h3 k (by omega) hk2
        exact (kind_blank (hn.ok (2 * k) (by rw [hn.len]; omega)) e).symm
      · exact (ats_over (by rw [hn.len]; omega)).symm
  have hlf2 : ∀ k, ats (goneT t i) (2 * k) = if k = i then blankN else ats t (2 * k) := fun k => by
    rw [hA]
    by_cases e : k = i
    · rw [if_pos e, if_pos (.inl (by omega))]
    · rw [if_neg e, if_neg]
      rintro (h5 | h5)
      · omega
      · have := path_odd h5; omega
  have hk1 : ∀ k, (ats (goneT t i) (2 * k)).kind ≠ 0 → (ats (goneT t i) (2 * k)).kind = 1 := fun k hk => by
    have hl := RightK.lt_of hk
    rcases hn.ok (2 * k) hl with h5 | ⟨h5, _⟩
    · rw [h5] at hk; exact absurd rfl hk
    · rw [h5]; omega
  refine ⟨K', h1, hc.right ?_, fun x => by rw [hB, hA], fun k => by rw [hlf, hlf2], ?_⟩
  · have : ∃ k, (ats (goneT t i) (2 * k)).kind ≠ 0 := by
      refine Classical.byContradiction fun hno => hne fun k _ _ => ?_
      exact Classical.byContradiction fun hk => hno ⟨k, hk⟩
    obtain ⟨k, hk⟩ := this
    have e1 := hk1 k hk
    rw [← hlf k] at e1
    exact ⟨2 * k, RightK.lt_of (by rw [e1]; decide), e1⟩
  · rcases h4 with h4 | ⟨k, a1, a2, a3⟩
    · exact .inl h4
    · exact .inr ⟨k, a1, a2, by rw [hlf]; exact hk1 k a3⟩
end Go.Proofs.YtobldbodafaajaaGreatDoor

/- The ratchet tree: what covers leaves; which leaves are used; what the statements ask. Nothing of a dump. -/
set_option linter.unusedVariables false
set_option linter.unusedSimpArgs false
namespace Go.Proofs.YtobldbodafaajaaGreatDoor
open Go.RowKit

/-- Does a node cover a leaf? -/
def covB (t : List Nod) (i : Int) (l : Int) : Bool := decide (loV l ≤ i ∧ i ≤ hiV l ∧ i ∉ (ats t l.toNat).un)
theorem lohi_nd {j q : Nat} (hj : j ≤ 10) (hq : q < 2 ^ (10 - j)) (i : Nat) : (loV ((nd j q : Nat) : Int) ≤ i ∧ (i : Int) ≤ hiV ((nd j q : Nat) : Int)) ↔ i / 2 ^ j = q := by
  obtain ⟨l1, l2⟩ := lv_nd hj hq
  rw [l1, l2, ← under_iff]
  have := p2_pos j
  omega
theorem countP_mem (l : List Int) (hn : l.Nodup) (p : Int → Bool) (i : Int) (h : ∀ x ∈ l, p x = decide (x = i)) : l.countP p = if i ∈ l then 1 else 0 := by
  induction l with
  | nil => rfl
  | cons a l ih =>
    rw [List.nodup_cons] at hn
    rw [List.countP_cons, ih hn.2 (fun x hx => h x (List.mem_cons_of_mem _ hx)), h a List.mem_cons_self]
    by_cases e : a = i
    · subst e
      simp [hn.1]
    · have e2 : ¬ i = a := fun h => e h.symm
      simp [e, e2]
theorem cov_count {t : List Nod} {K : Nat} (h : RightK t K) (i : Nat) (hi : (ats t (2 * i)).kind = 1) : ∀ (j q : Nat), j ≤ K → q < 2 ^ (K - j) → (resF t j q).countP (covB t i) = if i / 2 ^ j = q then 1 else 0 := by
  have hfull : ∀ (j q : Nat), j ≤ K → q < 2 ^ (K - j) → (ats t (nd j q)).kind ≠ 0 → (((nd j q : Nat) : Int) :: (ats t (nd j q)).un.map (2 * ·)).countP (covB t i) = if i / 2 ^ j = q then 1 else 0 := by
    intro j q hj hq hk
    obtain ⟨_, s2, s3⟩ := nd_small h.le hj hq
    have hun := fun u hu => h.unAt s2 s3 u hu
    have hns : (ats t (nd j q)).un.Nodup := by
      rcases h.okA (nd j q) with h1 | ⟨h1, h2, h3, h4, h5⟩
      · rw [h1] at hk; exact absurd rfl hk
      · by_cases e : (ats t (nd j q)).kind = 1
        · rw [h4 e]; exact List.nodup_nil
        · refine (h5 (by omega)).2.1.imp fun h => ?_
          omega
    rw [List.countP_cons, List.countP_map, countP_mem _ hns ((covB t i) ∘ (2 * ·)) (i : Int) (fun u hu => ?_)]
    · have e1 : covB t i ((nd j q : Nat) : Int) = decide (i / 2 ^ j = q ∧ (i : Int) ∉ (ats t (nd j q)).un) := by
        unfold covB
        rw [Int.toNat_natCast]
        refine decide_eq_decide.2 ?_
        rw [← lohi_nd s2 s3 i]
        constructor
        · rintro ⟨a, b, c⟩; exact ⟨⟨a, b⟩, c⟩
        · rintro ⟨⟨a, b⟩, c⟩; exact ⟨a, b, c⟩
      rw [e1]
      by_cases hm : (i : Int) ∈ (ats t (nd j q)).un
      · obtain ⟨k, a1, a2, _⟩ := hun _ hm
        have : k = i := by omega
        subst this
        simp [hm, a2]
      · by_cases hq2 : i / 2 ^ j = q
        · simp [hm, hq2]
        · simp [hm, hq2]
    · obtain ⟨k, rfl, a2, a3⟩ := hun u hu
      have hkl := RightK.lt_of (t := t) (x := 2 * k) (by rw [a3]; decide)
      have hk2 := h.len2
      have hpk := p2_le h.le
      have hun0 : (ats t (2 * k)).un = [] := by
        rcases h.even k with e | e
        · rw [e] at a3; cases a3
        · exact e.2.1
      have hl := lohi_nd (j := 0) (q := k) (by omega) (by have : k < 1024 := by omega
                                                          simpa using this) i
      rw [nd_leaf] at hl
      show covB t i (2 * (k : Int)) = decide ((k : Int) = (i : Int))
      unfold covB
      rw [show (2 * (k : Int)) = ((2 * k : Nat) : Int) by omega, Int.toNat_natCast, hun0]
      refine decide_eq_decide.2 ?_
      rw [← and_assoc, hl]
      simp
      omega
  intro j
  induction j with
  | zero =>
    intro q hj hq
    unfold resF
    by_cases hk : (ats t (nd 0 q)).kind = 0
    · rw [if_pos hk, if_neg]
      · rfl
      · intro e
        rw [nd_leaf] at hk
        simp at e
        subst e
        omega
    · rw [if_neg hk]
      exact hfull 0 q hj hq hk
  | succ j ih =>
    intro q hj hq
    unfold resF
    by_cases hk : (ats t (nd (j + 1) q)).kind = 0
    · have e : K - j = (K - (j + 1)) + 1 := by omega
      have hp := p2_succ (K - (j + 1))
      rw [if_pos hk, List.countP_append, ih (2 * q) (by omega) (by rw [e]; omega), ih (2 * q + 1) (by omega) (by rw [e]; omega), quot_succ]
      by_cases e1 : i / 2 ^ j / 2 = q
      · rw [if_pos e1]
        by_cases e2 : i / 2 ^ j = 2 * q
        · rw [if_pos e2, if_neg (by omega)]
        · rw [if_neg e2, if_pos (by omega)]
      · rw [if_neg e1, if_neg (by omega), if_neg (by omega)]
    · rw [if_neg hk]
      exact hfull (j + 1) q hj hq hk
theorem res_in {t : List Nod} {K : Nat} (h : RightK t K) : ∀ (j q : Nat), j ≤ K → q < 2 ^ (K - j) → ∀ l ∈ resF t j q, ∃ y : Nat, l = (y : Int) ∧ y < t.length ∧ (ats t y).kind ≠ 0 := by
  have hfull : ∀ (j q : Nat), j ≤ K → q < 2 ^ (K - j) → (ats t (nd j q)).kind ≠ 0 → ∀ l ∈ (((nd j q : Nat) : Int) :: (ats t (nd j q)).un.map (2 * ·)), ∃ y : Nat, l = (y : Int) ∧ y < t.length ∧ (ats t y).kind ≠ 0 := by
    intro j q hj hq hk l hl
    obtain ⟨_, s2, s3⟩ := nd_small h.le hj hq
    rcases List.mem_cons.1 hl with rfl | hl
    · exact ⟨_, rfl, RightK.lt_of hk, hk⟩
    · obtain ⟨u, hu, rfl⟩ := List.mem_map.1 hl
      obtain ⟨k, rfl, _, a3⟩ := h.unAt s2 s3 u hu
      exact ⟨2 * k, by omega, RightK.lt_of (by rw [a3]; decide), by rw [a3]; decide⟩
  intro j
  induction j with
  | zero =>
    intro q hj hq l hl
    unfold resF at hl
    by_cases hk : (ats t (nd 0 q)).kind = 0
    · rw [if_pos hk] at hl; simp at hl
    · rw [if_neg hk] at hl
      exact hfull 0 q hj hq hk l hl
  | succ j ih =>
    intro q hj hq l hl
    unfold resF at hl
    by_cases hk : (ats t (nd (j + 1) q)).kind = 0
    · rw [if_pos hk] at hl
      have e : K - j = (K - (j + 1)) + 1 := by omega
      have hp := p2_succ (K - (j + 1))
      rcases List.mem_append.1 hl with hl | hl
      · exact ih (2 * q) (by omega) (by rw [e]; omega) l hl
      · exact ih (2 * q + 1) (by omega) (by rw [e]; omega) l hl
    · rw [if_neg hk] at hl
      exact hfull (j + 1) q hj hq hk l hl
theorem res_nd {t : List Nod} {K j q : Nat} (h : RightK t K) (hj : j ≤ K) (hq : q < 2 ^ (K - j)) : resV t ((nd j q : Nat) : Int) = resF t j q := by
  have h1 := nd_lt hj hq
  have h2 := h.le
  unfold resV
  rw [if_pos ⟨by omega, by rw [h.len]; omega⟩, Int.toNat_natCast, lev_nd j q (by omega), qOf_nd j q (by omega)]

/-- The leaves that are used. -/
def usedL (t : List Nod) : List Nat := (List.range (lvs t)).filter fun i => decide ((ats t (2 * i)).kind = 1)
theorem used_mem (t : List Nod) (i : Nat) : i ∈ usedL t ↔ (ats t (2 * i)).kind = 1 := by
  unfold usedL
  rw [List.mem_filter, List.mem_range, decide_eq_true_eq]
  refine ⟨fun h => h.2, fun h => ⟨?_, h⟩⟩
  have := RightK.lt_of (t := t) (x := 2 * i) (by rw [h]; decide)
  unfold lvs
  omega
theorem filter_none (l : List Nat) (p : Nat → Bool) (h : ∀ x ∈ l, p x = false) : l.filter p = [] := by
  rw [List.filter_eq_nil_iff]
  intro x hx
  rw [h x hx]
  decide
theorem range_split (m n : Nat) (h : m ≤ n) : List.range n = List.range m ++ (List.range (n - m)).map (m + ·) := by
  rw [← List.range_add, Nat.add_sub_cancel' h]
/-- Of any greater range. -/
theorem used_to (t : List Nod) (n : Nat) (h : lvs t ≤ n) : usedL t = (List.range n).filter fun i => decide ((ats t (2 * i)).kind = 1) := by
  rw [range_split _ _ h, List.filter_append, filter_none (List.map _ _)]
  · rw [List.append_nil]; rfl
  · intro x hx
    obtain ⟨k, _, rfl⟩ := List.mem_map.1 hx
    refine decide_eq_false ?_
    rw [ats_over (by unfold lvs; omega)]
    decide
/-- The used leaves up to the first gap are those of their places. -/
theorem used_get {t : List Nod} {K : Nat} (h : RightK t K) (k : Nat) : (k < gapN t → (usedL t)[k]? = some k) ∧ ((usedL t)[gapN t]? ≠ some (gapN t)) ∧ gapN t ≤ (usedL t).length := by
  have hg := gap_le t
  have e : usedL t = List.range (gapN t) ++ ((List.range (lvs t - gapN t)).map (gapN t + ·)).filter fun i => decide ((ats t (2 * i)).kind = 1) := by
    unfold usedL
    rw [range_split _ _ hg, List.filter_append]
    congr 1
    rw [List.filter_eq_self]
    intro i hi
    rw [List.mem_range] at hi
    have h1 := gap_used hi
    rcases h.even i with h2 | h2
    · rw [h2] at h1; exact absurd rfl h1
    · exact decide_eq_true h2.1
  refine ⟨fun hk => ?_, fun hc => ?_, ?_⟩
  · rw [e, List.getElem?_append_left (by rw [List.length_range]; exact hk), List.getElem?_range hk]
  · have hm := (used_mem t _).1 (List.mem_of_getElem? hc)
    rw [h.gap0] at hm
    cases hm
  · rw [e, List.length_append, List.length_range]; omega
/-- A leaf behind which none is used. -/
theorem used_last {t : List Nod} (l : List Nat) (m : Nat) (h : usedL t = l ++ [m]) : (ats t (2 * m)).kind = 1 ∧ (∀ k, m < k → (ats t (2 * k)).kind ≠ 1) ∧ l = (List.range m).filter fun i => decide ((ats t (2 * i)).kind = 1) := by
  have hm : (ats t (2 * m)).kind = 1 := (used_mem t m).1 (by rw [h]; simp)
  have hs : (usedL t).Pairwise (· < ·) := List.Pairwise.filter _ (List.pairwise_lt_range)
  have hb : ∀ k, m < k → (ats t (2 * k)).kind ≠ 1 := fun k hk h1 => by
    have h2 := (used_mem t k).2 h1
    rw [h] at h2 hs
    rw [List.pairwise_append] at hs
    rcases List.mem_append.1 h2 with h3 | h3
    · have := hs.2.2 k h3 m (by simp)
      omega
    · simp at h3; omega
  refine ⟨hm, hb, ?_⟩
  have h3 := used_to t (max (lvs t) (m + 1)) (by omega)
  rw [range_split (m + 1) _ (by omega), List.filter_append, filter_none (List.map _ _), List.append_nil, List.range_succ, List.filter_append] at h3
  · rw [h] at h3
    have e : (List.filter (fun i => decide ((ats t (2 * i)).kind = 1)) [m]) = [m] := by simp [hm]
    rw [e] at h3
    exact (List.append_inj' h3 rfl).1
  · intro x hx
    obtain ⟨k, _, rfl⟩ := List.mem_map.1 hx
    exact decide_eq_false (hb _ (by omega))
/-- Behind the last leaf's removal. -/
theorem used_less {t u : List Nod} (l : List Nat) (m : Nat) (h : usedL t = l ++ [m]) (hu : ∀ k, ats u (2 * k) = if k = m then blankN else ats t (2 * k)) : usedL u = l := by
  obtain ⟨h1, h2, h3⟩ := used_last l m h
  rw [h3, used_to u (max (lvs u) m) (by omega), range_split m _ (by omega), List.filter_append, filter_none (List.map _ _), List.append_nil]
  · refine List.filter_congr fun i hi => ?_
    rw [List.mem_range] at hi
    rw [hu, if_neg (by omega)]
  · intro x hx
    obtain ⟨k, _, rfl⟩ := List.mem_map.1 hx
    refine decide_eq_false ?_
    rw [hu]
    split
    · decide
    · exact h2 _ (by omega)
theorem RightK.used_ne {t : List Nod} {K : Nat} (h : RightK t K) : ∃ l m, usedL t = l ++ [m] := by
  obtain ⟨x, hx, hk⟩ := h.used
  have he := ok_even (h.okA x) hk
  have hm : x / 2 ∈ usedL t := (used_mem t _).2 (by rw [show 2 * (x / 2) = x by omega]; exact hk)
  have hne : usedL t ≠ [] := fun e => by rw [e] at hm; simp at hm
  exact ⟨_, _, (List.dropLast_concat_getLast hne).symm⟩
/-- Is any leaf left? Just if more than one is used. -/
theorem RightK.gone_left {t : List Nod} {K : Nat} (h : RightK t K) {i : Nat} (hi : (ats t (2 * i)).kind = 1) : emptyP (goneT t i) 0 ↔ ∀ k, k ≠ i → (ats t (2 * k)).kind ≠ 1 := by
  have hil : i < 2 ^ K := by
    have h1 := RightK.lt_of (t := t) (x := 2 * i) (by rw [hi]; decide)
    have h2 := h.len2
    omega
  have hA := h.goneAt hil
  have hL := RightK.goneLen (t := t) i
  have hlf2 : ∀ k, ats (goneT t i) (2 * k) = if k = i then blankN else ats t (2 * k) := fun k => by
    rw [hA]
    by_cases e : k = i
    · rw [if_pos e, if_pos (.inl (by omega))]
    · rw [if_neg e, if_neg]
      rintro (h5 | h5)
      · omega
      · have := path_odd h5; omega
  constructor
  · intro he k hk h1
    have hkl := RightK.lt_of (t := t) (x := 2 * k) (by rw [h1]; decide)
    have := he k (Nat.zero_le _) (by unfold lvs; rw [hL]; omega)
    rw [hlf2, if_neg hk, h1] at this
    cases this
  · intro hk k _ _
    rw [hlf2]
    by_cases e : k = i
    · rw [if_pos e]; rfl
    · rw [if_neg e]
      rcases h.even k with h2 | h2
      · rw [h2]; rfl
      · exact absurd h2.1 (hk k e)
end Go.Proofs.YtobldbodafaajaaGreatDoor

/- Slices of nodes: five cells each. Nothing of a dump. -/
set_option linter.unusedVariables false
set_option linter.unusedSimpArgs false
namespace Go.Proofs.YtobldbodafaajaaGreatDoor
open Go.RowKit

/-- A node's five cells. -/
def nodC (n : Nod) (p u h : Value) : List Value := [.int .i64 n.kind, .int .i64 n.name, p, u, h]
/-- What a node's slices read as. -/
structure NIn (w : World) (n : Nod) (p u h : Value) : Prop where
  mk ::
  pub : Rd w p n.pub
  un : RI w u n.un
  hash : Rd w h n.hash
theorem NIn.kp {w w' : World} {n : Nod} {p u h : Value} (i : NIn w n p u h) (k : Kp w w') : NIn w' n p u h := ⟨i.pub.kp k, i.un.kp k, i.hash.kp k⟩
/-- A node by value. -/
def NV (w : World) (v : Value) (n : Nod) : Prop := ∃ p u h, v = .agg (nodC n p u h).toArray ∧ NIn w n p u h
theorem NV.kp {w w' : World} {v : Value} {n : Nod} (h : NV w v n) (k : Kp w w') : NV w' v n := by
  obtain ⟨p, u, h, e, i⟩ := h
  exact ⟨p, u, h, e, i.kp k⟩
theorem rd_nil9 (w : World) : Rd w (.slice none 0 0) [] := ⟨none, 0, rfl, Nat.le_refl _, Nat.zero_le _, fun _ => rfl, fun x hx => by cases hx⟩
theorem NV.blank (w : World) : NV w (.agg #[.int .i64 0, .int .i64 0, .slice none 0 0, .slice none 0 0, .slice none 0 0]) blankN :=
  ⟨_, _, _, rfl, ⟨rd_nil9 w, RI.nil w, rd_nil9 w⟩⟩

/-- A node lies in a block from an offset on. -/
def NAt (w : World) (b o : Nat) (n : Nod) (p u h : Value) : Prop := w.rangeAt b o (nodC n p u h) ∧ NIn w n p u h
theorem NAt.kp {w w' : World} {b o : Nat} {n : Nod} {p u h : Value} (i : NAt w b o n p u h) (k : Kp w w') : NAt w' b o n p u h :=
  ⟨fun j v hj => k.cell (i.1 j v hj), i.2.kp k⟩
theorem NAt.kind {w : World} {b o : Nat} {n : Nod} {p u h : Value} (i : NAt w b o n p u h) : w.cell? ⟨b, o, none⟩ = some (.int .i64 n.kind) := i.1 0 _ rfl
theorem NAt.name {w : World} {b o : Nat} {n : Nod} {p u h : Value} (i : NAt w b o n p u h) : w.cell? ⟨b, o + 1, none⟩ = some (.int .i64 n.name) := i.1 1 _ rfl
theorem NAt.pubC {w : World} {b o : Nat} {n : Nod} {p u h : Value} (i : NAt w b o n p u h) : w.cell? ⟨b, o + 2, none⟩ = some p := i.1 2 _ rfl
theorem NAt.unC {w : World} {b o : Nat} {n : Nod} {p u h : Value} (i : NAt w b o n p u h) : w.cell? ⟨b, o + 3, none⟩ = some u := i.1 3 _ rfl
theorem NAt.hashC {w : World} {b o : Nat} {n : Nod} {p u h : Value} (i : NAt w b o n p u h) : w.cell? ⟨b, o + 4, none⟩ = some h := i.1 4 _ rfl

/-- The slice value v reads as the nodes t. -/
def NL (w : World) (v : Value) (t : List Nod) : Prop :=
  ∃ a c, v = .slice a t.length c ∧ t.length ≤ c ∧ c ≤ maxLen ∧ (a = none → c = 0) ∧
    (0 < t.length → ∃ b off, a = some ⟨b, off, none⟩ ∧ b < w.heap.size ∧ ∀ i, i < t.length → ∃ p u h, NAt w b (off + i * 5) (ats t i) p u h)
theorem NL.kp {w w' : World} {v : Value} {t : List Nod} (h : NL w v t) (k : Kp w w') : NL w' v t := by
  obtain ⟨a, c, e, h1, h2, h3, h4⟩ := h
  refine ⟨a, c, e, h1, h2, h3, fun h0 => ?_⟩
  obtain ⟨b, off, ha, hb, hi⟩ := h4 h0
  refine ⟨b, off, ha, Nat.lt_of_lt_of_le hb k.size, fun i hi2 => ?_⟩
  obtain ⟨p, u, h, hn⟩ := hi i hi2
  exact ⟨p, u, h, hn.kp k⟩
theorem NL.shape {w : World} {v : Value} {t : List Nod} (h : NL w v t) : ∃ a c, v = .slice a t.length c ∧ t.length ≤ c ∧ c ≤ maxLen := by
  obtain ⟨a, c, e, h1, h2, _⟩ := h
  exact ⟨a, c, e, h1, h2⟩
theorem NL.sl {w : World} {v : Value} {t : List Nod} (h : NL w v t) : ∃ a n c, v = .slice a n c := by
  obtain ⟨a, c, e, _⟩ := h
  exact ⟨_, _, _, e⟩
theorem NL.nil (w : World) : NL w (.slice none 0 0) [] := ⟨none, 0, rfl, Nat.le_refl _, Nat.zero_le _, fun _ => rfl, fun h => absurd h (by simp)⟩
theorem NL.at {w : World} {a : Option Addr} {n c : Nat} {t : List Nod} (h : NL w (.slice a n c) t) (k : Nat) (hk : k < n) :
    ∃ b off, a = some ⟨b, off, none⟩ ∧ b < w.heap.size ∧ ∀ i, i < n → ∃ p u h, NAt w b (off + i * 5) (ats t i) p u h := by
  obtain ⟨a', c', e, h1, h2, h3, h4⟩ := h
  simp only [Value.slice.injEq] at e
  obtain ⟨rfl, rfl, rfl⟩ := e
  exact h4 (by omega)
/-- The first nodes of a slice. -/
theorem NL.pre {w : World} {a : Option Addr} {n c : Nat} {t : List Nod} (h : NL w (.slice a n c) t) (k : Nat) (hk : k ≤ n) : NL w (.slice a k c) (t.take k) := by
  obtain ⟨a', c', e, h1, h2, h3, h4⟩ := h
  simp only [Value.slice.injEq] at e
  obtain ⟨rfl, rfl, rfl⟩ := e
  have hl : (t.take k).length = k := by rw [List.length_take]; omega
  refine ⟨a, c, by rw [hl], by omega, h2, h3, fun h0 => ?_⟩
  rw [hl] at h0 ⊢
  obtain ⟨b, off, ha, hb, hi⟩ := h4 (by omega)
  refine ⟨b, off, ha, hb, fun i hi2 => ?_⟩
  obtain ⟨p, u, h, hn⟩ := hi i (by omega)
  exact ⟨p, u, h, by rw [ats_take, if_pos hi2]; exact hn⟩

theorem add_block9 (a : Addr) (n : Nat) : (a.add n).block = a.block := by unfold Addr.add; split <;> rfl
/-- A slice of which nothing lies in a row's block. -/
def Apart (v u : Value) : Prop := ∀ g, v.ownBlock = some g → ∀ x n c, u = .slice (some x) n c → 0 < n → x.block ≠ g
theorem Apart.nil (v : Value) (a : Option Addr) (c : Nat) : Apart v (.slice a 0 c) := fun g hg x n c' e h => by
  simp only [Value.slice.injEq] at e
  omega
/-- What was there before a row was made lies elsewhere. -/
theorem Rd.apart {w : World} {v u : Value} {l : List UInt8} (h : Rd w u l) (hv : ∀ g, v.ownBlock = some g → w.heap.size ≤ g) : Apart v u := fun g hg x n c e h0 he => by
  obtain ⟨a', c', e', h1, h2, h3, h4⟩ := h
  rw [e] at e'
  simp only [Value.slice.injEq] at e'
  obtain ⟨rfl, rfl, rfl⟩ := e'
  have hb := World.block_lt_of_cell? w _ (h4 x rfl 0 h0)
  rw [add_block9] at hb
  have := hv g hg
  omega
theorem RI.apart {w : World} {v u : Value} {l : List Int} (h : RI w u l) (hv : ∀ g, v.ownBlock = some g → w.heap.size ≤ g) : Apart v u := fun g hg x n c e h0 he => by
  obtain ⟨a', c', e', h1, h2, h3, h4⟩ := h
  rw [e] at e'
  simp only [Value.slice.injEq] at e'
  obtain ⟨rfl, rfl, rfl⟩ := e'
  have hb := World.block_lt_of_cell? w _ (h4 x rfl 0 h0)
  rw [add_block9] at hb
  have := hv g hg
  omega
/-- A row of the call's own, made behind another one. -/
theorem OI.apart {e : TypeId} {w : World} {B : Nat} {v u : Value} {l : List Int} (h : OI e w B u l) (hv : ∀ g, v.ownBlock = some g → g < B) : Apart v u := fun g hg x n c e' h0 he => by
  have h1 := hv g hg
  have h2 := (h.lt x.block (by rw [e']; rfl)).1
  omega
theorem Rd.grown9 {w w' : World} {u v : Value} {l : List UInt8} (h : Rd w u l) (hg : w.grownBy w' v.ownBlock) (ha : Apart v u) : Rd w' u l := by
  obtain ⟨a, c, e, h1, h2, h3, h4⟩ := h
  subst e
  refine ⟨a, c, rfl, h1, h2, h3, fun x hx i hi => ?_⟩
  have hc := h4 x hx i hi
  subst hx
  exact hg.cell hc fun e => ha x.block (by rw [← e, add_block9]) x _ c rfl (by first | omega | (rw [List.length_map] at hi ⊢; omega)) rfl
theorem RI.grown9 {w w' : World} {u v : Value} {l : List Int} (h : RI w u l) (hg : w.grownBy w' v.ownBlock) (ha : Apart v u) : RI w' u l := by
  obtain ⟨a, c, e, h1, h2, h3, h4⟩ := h
  subst e
  refine ⟨a, c, rfl, h1, h2, h3, fun x hx i hi => ?_⟩
  have hc := h4 x hx i hi
  subst hx
  exact hg.cell hc fun e => ha x.block (by rw [← e, add_block9]) x _ c rfl (by first | omega | (rw [List.length_map] at hi ⊢; omega)) rfl
theorem NIn.grown {w w' : World} {v : Value} {n : Nod} {p u h : Value} (i : NIn w n p u h) (hg : w.grownBy w' v.ownBlock) (h1 : Apart v p) (h2 : Apart v u) (h3 : Apart v h) : NIn w' n p u h :=
  ⟨i.pub.grown9 hg h1, i.un.grown9 hg h2, i.hash.grown9 hg h3⟩

/-- v holds, in memory of the call's own, the nodes t; their slices lie elsewhere. -/
def NO (e : TypeId) (w : World) (B : Nat) (v : Value) (t : List Nod) : Prop :=
  ∃ us : List Value, w.ownsRow B e 5 v t.length us ∧ (∀ z ∈ us, z.oneCell' = true) ∧
    ∀ i, i < t.length → ∃ p u h, (∀ f, f < 5 → us[i * 5 + f]? = (nodC (ats t i) p u h)[f]?) ∧ NIn w (ats t i) p u h ∧ Apart v p ∧ Apart v u ∧ Apart v h
theorem NO.kp {e : TypeId} {w w' : World} {B : Nat} {v : Value} {t : List Nod} (h : NO e w B v t) (k : Kp w w') : NO e w' B v t := by
  obtain ⟨us, h1, h2, h3⟩ := h
  refine ⟨us, ownsRow_kp9 h1 k, h2, fun i hi => ?_⟩
  obtain ⟨p, u, h, a1, a2, a3⟩ := h3 i hi
  exact ⟨p, u, h, a1, a2.kp k, a3⟩
theorem NO.mono {e : TypeId} {w : World} {B C : Nat} {v : Value} {t : List Nod} (h : NO e w B v t) (hb : C ≤ B) : NO e w C v t := by
  obtain ⟨us, h1, h2, h3⟩ := h
  refine ⟨us, ⟨h1.1, ?_⟩, h2, h3⟩
  rcases h1.2 with hn | ⟨g, cap, cur, e1, h1, rest⟩
  · exact .inl hn
  · exact .inr ⟨g, cap, cur, e1, by omega, rest⟩
theorem NO.lt {e : TypeId} {w : World} {B : Nat} {v : Value} {t : List Nod} (h : NO e w B v t) : ∀ k, v.ownBlock = some k → B ≤ k ∧ k < w.heap.size := by
  obtain ⟨us, h1, _⟩ := h
  exact fun k hk => World.ownsRow.lt h1 k hk
/-- Where it lies. -/
theorem NO.form {e : TypeId} {w : World} {B : Nat} {v : Value} {t : List Nod} (h : NO e w B v t) (h0 : 0 < t.length) :
    ∃ g c, v = .slice (some ⟨g, 0, none⟩) t.length c ∧ B ≤ g ∧ g < w.heap.size ∧ t.length ≤ c ∧ c ≤ maxLen ∧
      ∀ i, i < t.length → ∃ p u h, NAt w g (i * 5) (ats t i) p u h ∧ Apart v p ∧ Apart v u ∧ Apart v h := by
  obtain ⟨us, h1, h2, h3⟩ := h
  have hlt := fun k hk => World.ownsRow.lt h1 k hk
  rcases id h1.2 with ⟨_, hn⟩ | ⟨g, cap, cur, rfl, hb, hg, hn, hm, hs, ht⟩
  · omega
  · refine ⟨g, cap, rfl, hb, (hlt g rfl).2, hn, hm, fun i hi => ?_⟩
    obtain ⟨p, u, h, a1, a2, a3⟩ := h3 i hi
    refine ⟨p, u, h, ⟨fun j x hj => ?_, a2⟩, a3⟩
    have hjl : j < 5 := (List.getElem?_eq_some_iff.1 hj).1
    rw [h1.cellAt (i * 5 + j) (by omega), a1 j hjl]
    exact hj
theorem NO.nl {e : TypeId} {w : World} {B : Nat} {v : Value} {t : List Nod} (h : NO e w B v t) : NL w v t := by
  by_cases h0 : 0 < t.length
  · obtain ⟨g, c, rfl, hb, hg, h1, h2, h3⟩ := h.form h0
    refine ⟨_, c, rfl, h1, h2, fun h => (by cases h), fun _ => ⟨g, 0, rfl, hg, fun i hi => ?_⟩⟩
    rw [Nat.zero_add]
    obtain ⟨p, u, h, hn, _⟩ := h3 i hi
    exact ⟨p, u, h, hn⟩
  · have ht : t = [] := List.eq_nil_of_length_eq_zero (by omega)
    subst ht
    obtain ⟨us, h1, _⟩ := h
    rcases h1.2 with ⟨rfl, _⟩ | ⟨g, cap, cur, rfl, hb, hg, hn, hm, hs, ht⟩
    · exact NL.nil w
    · exact ⟨_, cap, rfl, hn, hm, fun h => (by cases h), fun h => absurd h (by simp)⟩
theorem NO.nil (e : TypeId) (w : World) (B : Nat) : NO e w B (.slice none 0 0) [] := ⟨[], World.ownsRow_nil _ _ _ _, fun z hz => by simp at hz, fun i hi => by simp at hi⟩
/-- A literal of no nodes. -/
theorem NO.empty (e : TypeId) (w : World) : NO e (w.alloc (.cells #[] e)) w.heap.size (.slice (some ⟨w.heap.size, 0, none⟩) 0 0) [] :=
  ⟨[], World.ownsRow_lit w #[] 0 (Nat.le_refl _) (by unfold maxLen; omega) rfl, fun z hz => by simp at hz, fun i hi => by simp at hi⟩
theorem nodC_one {w : World} {n : Nod} {p u h : Value} (i : NIn w n p u h) : ∀ z ∈ nodC n p u h, z.oneCell' = true := by
  obtain ⟨a1, n1, c1, rfl⟩ : ∃ a n c, p = .slice a n c := by obtain ⟨a, c, e, _⟩ := i.pub.shape; exact ⟨_, _, _, e⟩
  obtain ⟨a2, n2, c2, rfl⟩ := i.un.sl
  obtain ⟨a3, n3, c3, rfl⟩ : ∃ a n c, h = .slice a n c := by obtain ⟨a, c, e, _⟩ := i.hash.shape; exact ⟨_, _, _, e⟩
  intro z hz
  unfold nodC at hz
  simp only [List.mem_cons, List.not_mem_nil, or_false] at hz
  rcases hz with rfl | rfl | rfl | rfl | rfl <;> rfl
theorem NO.there {e : TypeId} {w : World} {B g c n : Nat} {t : List Nod} (h : NO e w B (.slice (some ⟨g, 0, none⟩) n c) t) (i : Nat) (hi : i < t.length) : w.there g (i * 5) 5 := by
  obtain ⟨us, h1, h2, h3⟩ := h
  have hn : t.length = n := by
    rcases h1.2 with ⟨e, _⟩ | ⟨g', cap, cur, e, _⟩
    · simp at e
    · simp only [Value.slice.injEq] at e; exact e.2.1.symm
  subst hn
  intro j hj
  refine ⟨?_, h1.frozenAt _⟩
  rw [h1.cellAt (i * 5 + j) (by omega), List.getElem?_eq_getElem (by rw [h1.1]; omega)]
  rfl
/-- Cells set one behind the other, in a row of the call's own. -/
theorem ownsRow_setCells {e : TypeId} {B g n cap C : Nat} : ∀ (vs : List Value) (o : Nat) (w : World) (xs : List Value), w.ownsRow B e C (.slice (some ⟨g, 0, none⟩) n cap) n xs → o + vs.length ≤ xs.length →
    ∃ ys, (w.setCells g o vs).ownsRow B e C (.slice (some ⟨g, 0, none⟩) n cap) n ys ∧ w.grownBy (w.setCells g o vs) (some g) ∧ ys.length = xs.length ∧ ∀ k, ys[k]? = if o ≤ k ∧ k < o + vs.length then vs[k - o]? else xs[k]?
  | [], o, w, xs, h, _ => ⟨xs, h, ⟨rfl, rfl, rfl, Nat.le_refl _, fun _ _ _ => rfl⟩, rfl, fun k => by rw [if_neg (by simp only [List.length_nil]; omega)]⟩
  | v :: vs, o, w, xs, h, hl => by
    obtain ⟨h1, g1⟩ := h.stored o v
    obtain ⟨ys, h2, g2, hl2, h3⟩ := ownsRow_setCells vs (o + 1) (w.setCell ⟨g, o, none⟩ v) (xs.set o v) h1 (by rw [List.length_set]; simp at hl; omega)
    refine ⟨ys, h2, ⟨g2.os.trans g1.os, g2.tape.trans g1.tape, g2.output.trans g1.output, Nat.le_trans g1.size g2.size, fun k hk hn => (g2.block k (Nat.lt_of_lt_of_le hk g1.size) hn).trans (g1.block k hk hn)⟩, by rw [hl2, List.length_set], fun k => ?_⟩
    rw [h3 k]
    simp only [List.length_cons] at hl ⊢
    by_cases h4 : o + 1 ≤ k ∧ k < o + 1 + vs.length
    · rw [if_pos h4, if_pos ⟨by omega, by omega⟩, show k - o = (k - (o + 1)) + 1 by omega, List.getElem?_cons_succ]
    · rw [if_neg h4, List.getElem?_set]
      by_cases h5 : o = k
      · subst h5
        rw [if_pos rfl, if_pos (by omega), if_pos ⟨by omega, by omega⟩, Nat.sub_self]
        rfl
      · rw [if_neg h5, if_neg (by omega)]
/-- A node stored. -/
theorem NO.stored {e : TypeId} {w : World} {B g c n : Nat} {t : List Nod} (h : NO e w B (.slice (some ⟨g, 0, none⟩) n c) t) (i : Nat) (hi : i < t.length) (m : Nod) (p u q : Value) (hin : NIn w m p u q)
    (h1 : Apart (.slice (some ⟨g, 0, none⟩) n c) p) (h2 : Apart (.slice (some ⟨g, 0, none⟩) n c) u) (h3 : Apart (.slice (some ⟨g, 0, none⟩) n c) q) :
    NO e (w.setCells g (i * 5) (nodC m p u q)) B (.slice (some ⟨g, 0, none⟩) n c) (t.set i m) ∧ w.grownBy (w.setCells g (i * 5) (nodC m p u q)) (some g) := by
  obtain ⟨us, k1, k2, k3⟩ := h
  have hn : t.length = n := by
    rcases k1.2 with ⟨e, _⟩ | ⟨g', cap, cur, e, _⟩
    · simp at e
    · simp only [Value.slice.injEq] at e; exact e.2.1.symm
  subst hn
  have hul := k1.1
  obtain ⟨ys, y1, y2, y3, y4⟩ := ownsRow_setCells (nodC m p u q) (i * 5) w us k1 (by rw [hul]; show i * 5 + 5 ≤ _; omega)
  refine ⟨⟨ys, by rw [List.length_set]; exact y1, fun z hz => ?_, fun k hk => ?_⟩, y2⟩
  · obtain ⟨k, hk⟩ := List.getElem?_of_mem hz
    rw [y4] at hk
    split at hk
    · exact nodC_one hin z (List.mem_of_getElem? hk)
    · exact k2 z (List.mem_of_getElem? hk)
  · rw [List.length_set] at hk
    have e5 : (nodC m p u q).length = 5 := rfl
    rw [ats_set t i m k hi]
    by_cases e1 : k = i
    · subst e1
      rw [if_pos rfl]
      refine ⟨p, u, q, fun f hf => ?_, hin.grown (v := .slice (some ⟨g, 0, none⟩) t.length c) y2 h1 h2 h3, h1, h2, h3⟩
      rw [y4, e5, if_pos ⟨by omega, by omega⟩, Nat.add_sub_cancel_left]
    · rw [if_neg e1]
      obtain ⟨p', u', q', a1, a2, a3, a4, a5⟩ := k3 k hk
      refine ⟨p', u', q', fun f hf => ?_, a2.grown (v := .slice (some ⟨g, 0, none⟩) t.length c) y2 a3 a4 a5, a3, a4, a5⟩
      rw [y4, e5, if_neg (by omega)]
      exact a1 f hf

/-- Whose elements are five cells. -/
structure S5 (P : Program) (t e : TypeId) : Prop where
  mk ::
  ht : P.underlying t = some (.slice e)
  hi : ∃ i z, P.info? e = some i ∧ i.zero = some z ∧ i.size = 5 ∧ i.bytes ≤ 128 ∧ z.cells.size = 5
theorem S5.mk' {P : Program} {t e : TypeId} {z : Value} {b : Nat} (ht : P.underlying t = some (.slice e)) (h : (P.info? e).map (fun i => (i.zero, i.size, i.bytes)) = some (some z, 5, b)) (hb : b ≤ 128) (hz : z.cells.size = 5) : S5 P t e := by
  obtain ⟨i, hi, hz0, hz1, hz2⟩ := info_parts h
  exact ⟨ht, i, z, hi, hz0, hz1, by omega, hz⟩
/-- Nodes in memory, of which nothing lies in the block of v. -/
def NAp (w : World) (v u : Value) (t : List Nod) : Prop :=
  ∃ a c, u = .slice a t.length c ∧ t.length ≤ c ∧ c ≤ maxLen ∧ (a = none → c = 0) ∧
    (0 < t.length → ∃ b off, a = some ⟨b, off, none⟩ ∧ ∀ i, i < t.length → ∃ p u h, NAt w b (off + i * 5) (ats t i) p u h ∧ Apart v p ∧ Apart v u ∧ Apart v h)
theorem NL.apart {w w' : World} {v u : Value} {t : List Nod} (h : NL w u t) (k : Kp w w') (hv : ∀ g, v.ownBlock = some g → w.heap.size ≤ g) : NAp w' v u t := by
  obtain ⟨a, c, e, h1, h2, h3, h4⟩ := h
  refine ⟨a, c, e, h1, h2, h3, fun h0 => ?_⟩
  obtain ⟨b, off, ha, _, hi⟩ := h4 h0
  refine ⟨b, off, ha, fun i hi2 => ?_⟩
  obtain ⟨p, u, h, hn⟩ := hi i hi2
  exact ⟨p, u, h, hn.kp k, hn.2.pub.apart hv, hn.2.un.apart hv, hn.2.hash.apart hv⟩
theorem NL.apart_blank {w : World} {v u : Value} {t : List Nod} (h : NL w u t) (hb : ∀ i, ats t i = blankN) : NAp w v u t := by
  obtain ⟨a, c, e, h1, h2, h3, h4⟩ := h
  refine ⟨a, c, e, h1, h2, h3, fun h0 => ?_⟩
  obtain ⟨b, off, ha, _, hi⟩ := h4 h0
  refine ⟨b, off, ha, fun i hi2 => ?_⟩
  obtain ⟨p, u, h, hn⟩ := hi i hi2
  have e := hb i
  obtain ⟨a1, c1, e1, _⟩ := hn.2.pub.shape
  obtain ⟨a2, c2, e2, _⟩ := hn.2.un.shape
  obtain ⟨a3, c3, e3, _⟩ := hn.2.hash.shape
  rw [e] at e1 e2 e3
  refine ⟨p, u, h, hn, ?_, ?_, ?_⟩
  · rw [e1]; exact Apart.nil v a1 c1
  · rw [e2]; exact Apart.nil v a2 c2
  · rw [e3]; exact Apart.nil v a3 c3
theorem NAp.flat {w : World} {v : Value} {b off : Nat} {t : List Nod} (h : ∀ i, i < t.length → ∃ p u h, NAt w b (off + i * 5) (ats t i) p u h ∧ Apart v p ∧ Apart v u ∧ Apart v h) :
    ∃ us : List Value, us.length = t.length * 5 ∧ (∀ z ∈ us, z.oneCell' = true) ∧ (∀ j z, us[j]? = some z → w.cell? ⟨b, off + j, none⟩ = some z) ∧
      ∀ i, i < t.length → ∃ p u h, (∀ f, f < 5 → us[i * 5 + f]? = (nodC (ats t i) p u h)[f]?) ∧ NIn w (ats t i) p u h ∧ Apart v p ∧ Apart v u ∧ Apart v h := by
  have key : ∀ n, n ≤ t.length → ∃ us : List Value, us.length = n * 5 ∧ (∀ z ∈ us, z.oneCell' = true) ∧ (∀ j z, us[j]? = some z → w.cell? ⟨b, off + j, none⟩ = some z) ∧
      ∀ i, i < n → ∃ p u h, (∀ f, f < 5 → us[i * 5 + f]? = (nodC (ats t i) p u h)[f]?) ∧ NIn w (ats t i) p u h ∧ Apart v p ∧ Apart v u ∧ Apart v h := by
    intro n
    induction n with
    | zero => exact fun _ => ⟨[], rfl, fun z hz => by simp at hz, fun j z hj => by simp at hj, fun i hi => by omega⟩
    | succ n ih =>
      intro hn
      obtain ⟨us, l1, l2, l3, l4⟩ := ih (by omega)
      obtain ⟨p, u, q, ⟨hc, hin⟩, hap⟩ := h n (by omega)
      have e5 : (nodC (ats t n) p u q).length = 5 := rfl
      refine ⟨us ++ nodC (ats t n) p u q, by rw [List.length_append, l1, e5]; omega, fun z hz => ?_, fun j z hj => ?_, fun i hi => ?_⟩
      · rcases List.mem_append.1 hz with hz | hz
        · exact l2 z hz
        · exact nodC_one hin z hz
      · by_cases hjl : j < us.length
        · rw [List.getElem?_append_left hjl] at hj
          exact l3 j z hj
        · rw [List.getElem?_append_right (by omega)] at hj
          have := hc _ z hj
          rw [l1] at this hjl
          rwa [show off + n * 5 + (j - n * 5) = off + j by omega] at this
      · by_cases hin2 : i < n
        · obtain ⟨p', u', q', a1, a2⟩ := l4 i hin2
          refine ⟨p', u', q', fun f hf => ?_, a2⟩
          rw [List.getElem?_append_left (by rw [l1]; omega)]
          exact a1 f hf
        · have : i = n := by omega
          subst this
          refine ⟨p, u, q, fun f hf => ?_, hin, hap⟩
          rw [List.getElem?_append_right (by rw [l1]; omega), l1, Nat.add_sub_cancel_left]
  exact key t.length (Nat.le_refl _)
theorem Apart.moved {w : World} {v v' u : Value} {l : List UInt8} (h : Apart v u) (hu : Rd w u l) (k : v'.ownBlock = v.ownBlock ∨ v'.ownBlock = some w.heap.size) : Apart v' u := by
  rcases k with k | k
  · exact fun g hg => h g (k ▸ hg)
  · exact hu.apart fun g hg => by rw [k] at hg; cases hg; exact Nat.le_refl _
theorem Apart.movedI {w : World} {v v' u : Value} {l : List Int} (h : Apart v u) (hu : RI w u l) (k : v'.ownBlock = v.ownBlock ∨ v'.ownBlock = some w.heap.size) : Apart v' u := by
  rcases k with k | k
  · exact fun g hg => h g (k ▸ hg)
  · exact hu.apart fun g hg => by rw [k] at hg; cases hg; exact Nat.le_refl _
theorem ats_app (t m : List Nod) (i : Nat) : ats (t ++ m) i = if i < t.length then ats t i else ats m (i - t.length) := by
  unfold ats
  rw [List.getD_eq_getElem?_getD]
  split
  · next h => rw [List.getElem?_append_left h, List.getD_eq_getElem?_getD]
  · next h => rw [List.getElem?_append_right (by omega), List.getD_eq_getElem?_getD]
/-- append(v, u...) of nodes: v a row of the call's own. -/
theorem wpList_append_nodes {P : Program} {w : World} {t e : TypeId} (S : S5 P t e) {ops : Array Oper} {rest : List Oper} {o : Oper} {a : Act} {Q : Exit → Act → World → Prop} (hgd : o.guard = none) (s x : Operand)
    (ho : o.op = .call { callee := .builtin .append, args := #[s, x], argTypes := #[t, t] })
    (B : Nat) (v : Value) (ts : List Nod) (hs : a.eval s = v) (hown : NO e w B v ts) (u : Value) (ms : List Nod) (hx : a.eval x = u) (hu : NAp w v u ms) (hlen : ts.length + ms.length ≤ 1000000) (hbase : B ≤ w.heap.size)
    (h : ∀ v' w', NO e w' B v' (ts ++ ms) → w.grownBy w' v.ownBlock → (v'.ownBlock = v.ownBlock ∨ v'.ownBlock = some w.heap.size) → wpList P ops Q rest (a.put o.dst v') w') : wpList P ops Q (o :: rest) a w := by
  obtain ⟨i, z, hi, hz, hsize, hby, hzc⟩ := S.hi
  obtain ⟨us, h1, h2, h3⟩ := hown
  obtain ⟨ad, c, rfl, hc, hm, hnil, hcell⟩ := hu
  by_cases h0 : 0 < ms.length
  · obtain ⟨b, off, rfl, hn⟩ := hcell h0
    obtain ⟨news, n1, n2, n3, n4⟩ := NAp.flat hn
    refine wpList_append_own_at w hgd s x t ho B e i z 5 i.bytes S.ht hi hz hsize rfl hzc (by decide) v ts.length us hs h1 ⟨b, off, none⟩ ms.length c news hx n1 (fun j y hj => ?_) n2 (by unfold maxLen; omega) ?_ hbase
      (fun v' w' k1 k2 _ k4 => h v' w' ⟨us ++ news, by rw [List.length_append]; exact k1, fun y hy => ?_, fun j hj => ?_⟩ k2 k4)
    · rw [Addr.add_mid]
      exact n3 j y hj
    · have := Nat.mul_le_mul hlen hby
      omega
    · rcases List.mem_append.1 hy with hy | hy
      · exact h2 y hy
      · exact n2 y hy
    · have hul := h1.1
      rw [ats_app]
      by_cases hjl : j < ts.length
      · rw [if_pos hjl]
        obtain ⟨p, q, r, a1, a2, a3, a4, a5⟩ := h3 j hjl
        refine ⟨p, q, r, fun f hf => ?_, a2.grown k2 a3 a4 a5, a3.moved a2.pub k4, a4.movedI a2.un k4, a5.moved a2.hash k4⟩
        rw [List.getElem?_append_left (by rw [hul]; omega)]
        exact a1 f hf
      · rw [if_neg hjl]
        rw [List.length_append] at hj
        obtain ⟨p, q, r, a1, a2, a3, a4, a5⟩ := n4 (j - ts.length) (by omega)
        refine ⟨p, q, r, fun f hf => ?_, a2.grown k2 a3 a4 a5, a3.moved a2.pub k4, a4.movedI a2.un k4, a5.moved a2.hash k4⟩
        rw [List.getElem?_append_right (by rw [hul]; omega), hul, ← a1 f hf]
        congr 1
        omega
  · have hm0 : ms = [] := List.eq_nil_of_length_eq_zero (by omega)
    subst hm0
    cases ad with
    | none =>
      have hc0 := hnil rfl
      subst hc0
      refine wpList_append_own_none hgd s x t ho B e i 5 S.ht hi v ts.length us hs h1 hx ?_
      exact h v w ⟨us, by simpa using h1, h2, by simpa using h3⟩ ⟨rfl, rfl, rfl, Nat.le_refl _, fun _ _ _ => rfl⟩ (.inl rfl)
    | some ad =>
      refine wpList_append_own_at w hgd s x t ho B e i z 5 i.bytes S.ht hi hz hsize rfl hzc (by decide) v ts.length us hs h1 ad 0 c [] hx rfl (fun j y hj => by simp at hj) (fun y hy => by simp at hy) (by unfold maxLen; omega) ?_ hbase
        (fun v' w' k1 k2 _ k4 => h v' w' ⟨us, by simpa using k1, h2, fun j hj => ?_⟩ k2 k4)
      · have := Nat.mul_le_mul hlen hby
        simp only [List.length_nil] at this
        omega
      · rw [List.append_nil] at hj ⊢
        obtain ⟨p, q, r, a1, a2, a3, a4, a5⟩ := h3 j hj
        exact ⟨p, q, r, a1, a2.grown k2 a3 a4 a5, a3.moved a2.pub k4, a4.movedI a2.un k4, a5.moved a2.hash k4⟩
/-- A node is stored. -/
theorem wpList_store_node {P : Program} {w : World} {ty e : TypeId} (hsz : (P.info? ty).map (·.size) = some 5) {ops : Array Oper} {rest : List Oper} {o : Oper} {a : Act} {Q : Exit → Act → World → Prop} (hgd : o.guard = none) (hd : o.dst = none) (x y : Operand)
    (ho : o.op = .store ty x y) (B g c n : Nat) (t : List Nod) (hown : NO e w B (.slice (some ⟨g, 0, none⟩) n c) t) (i : Nat) (hi : i < t.length) (m : Nod) (p u q : Value)
    (hx : a.eval x = .pointer (some ⟨g, i * 5, none⟩)) (hy : a.eval y = .agg #[.int .i64 m.kind, .int .i64 m.name, p, u, q]) (hin : NIn w m p u q)
    (h1 : Apart (.slice (some ⟨g, 0, none⟩) n c) p) (h2 : Apart (.slice (some ⟨g, 0, none⟩) n c) u) (h3 : Apart (.slice (some ⟨g, 0, none⟩) n c) q)
    (h : ∀ w', NO e w' B (.slice (some ⟨g, 0, none⟩) n c) (t.set i m) → w.grownBy w' (some g) → wpList P ops Q rest a w') : wpList P ops Q (o :: rest) a w := by
  obtain ⟨k1, k2⟩ := hown.stored i hi m p u q hin h1 h2 h3
  refine wpList_store_mid hgd ty x y ho g (i * 5) (nodC m p u q).toArray hx hy (hown.there i hi) hsz (all_oneCell_toArray (nodC_one hin)) ?_
  rw [hd]
  exact h _ k1 k2
end Go.Proofs.YtobldbodafaajaaGreatDoor

/- A block of cells; what a slice of bytes is. Nothing of a dump. -/
set_option linter.unusedVariables false
set_option linter.unusedSimpArgs false
namespace Go.Proofs.YtobldbodafaajaaGreatDoor
open Go.RowKit

/-- A block of cells. -/
def Bx (w : World) (b : Nat) (T : TypeId) (cs : Array Value) : Prop := w.heap[b]? = some (.cells cs T (0, 0))
theorem Bx.kp {w w' : World} {b : Nat} {T : TypeId} {cs : Array Value} (h : Bx w b T cs) (k : Kp w w') : Bx w' b T cs :=
  (Below.block k b (Array.getElem?_eq_some_iff.1 h).1).trans h
theorem Bx.cell {w : World} {b : Nat} {T : TypeId} {cs : Array Value} (h : Bx w b T cs) (j : Nat) : w.cell? ⟨b, j, none⟩ = cs[j]? := cell_of_row w b j cs T (0, 0) h
theorem Bx.frozen {w : World} {b : Nat} {T : TypeId} {cs : Array Value} (h : Bx w b T cs) (j : Nat) : w.frozen? ⟨b, j, none⟩ = false := frozen_of_row w b j cs T h
theorem Bx.new (w : World) (T : TypeId) (cs : Array Value) : Bx (w.alloc (.cells cs T)) w.heap.size T cs := heap_alloc_new w _
theorem Bx.set {w : World} {b : Nat} {T : TypeId} {cs : Array Value} (h : Bx w b T cs) (j : Nat) (v : Value) : Bx (w.setCell ⟨b, j, none⟩ v) b T (cs.setIfInBounds j v) := heap_setCell_same w b j cs T v h
theorem Kp.setNew {w w' : World} (h : Kp w w') {b j : Nat} (hb : w.heap.size ≤ b) (v : Value) : Kp w (w'.setCell ⟨b, j, none⟩ v) := Below.setCell h hb v
theorem rd_sl9 {w : World} {v : Value} {l : List UInt8} (h : Rd w v l) : ∃ a n c, v = .slice a n c := by
  obtain ⟨a, c, e, _⟩ := h.shape
  exact ⟨_, _, _, e⟩
/-- All its cells, written one behind the other. -/
theorem Bx.setCells {b : Nat} {T : TypeId} : ∀ (vs : List Value) (o : Nat) (w : World) (cs : Array Value), Bx w b T cs → o + vs.length ≤ cs.size →
    ∃ cs' : Array Value, Bx (w.setCells b o vs) b T cs' ∧ cs'.size = cs.size ∧ ∀ k, cs'[k]? = if o ≤ k ∧ k < o + vs.length then vs[k - o]? else cs[k]?
  | [], o, w, cs, h, _ => ⟨cs, h, rfl, fun k => by rw [if_neg (by simp only [List.length_nil]; omega)]⟩
  | v :: vs, o, w, cs, h, hl => by
    simp only [List.length_cons] at hl
    obtain ⟨cs', h2, h3, h4⟩ := Bx.setCells vs (o + 1) (w.setCell ⟨b, o, none⟩ v) (cs.setIfInBounds o v) (h.set o v) (by rw [Array.size_setIfInBounds]; omega)
    refine ⟨cs', h2, by rw [h3, Array.size_setIfInBounds], fun k => ?_⟩
    rw [h4 k]
    simp only [List.length_cons]
    by_cases h5 : o + 1 ≤ k ∧ k < o + 1 + vs.length
    · rw [if_pos h5, if_pos ⟨by omega, by omega⟩, show k - o = (k - (o + 1)) + 1 by omega, List.getElem?_cons_succ]
    · rw [if_neg h5, Array.getElem?_setIfInBounds]
      by_cases h6 : o = k
      · subst h6
        rw [if_pos rfl, if_pos (by omega), if_pos ⟨by omega, by omega⟩, Nat.sub_self]
        rfl
      · rw [if_neg h6, if_neg (by omega)]
theorem Bx.fill {w : World} {b : Nat} {T : TypeId} {cs : Array Value} (h : Bx w b T cs) (vs : Array Value) (hl : vs.size = cs.size) : Bx (w.setCells b 0 vs.toList) b T vs := by
  obtain ⟨cs', h1, h2, h3⟩ := Bx.setCells vs.toList 0 w cs h (by rw [Array.length_toList]; omega)
  have e : cs' = vs := by
    refine Array.ext_getElem? fun k => ?_
    rw [h3 k, Array.length_toList]
    split
    · rw [Nat.sub_zero, Array.getElem?_toList]
    · next hk => rw [Array.getElem?_eq_none (by omega), Array.getElem?_eq_none (by omega)]
  exact e ▸ h1
theorem Bx.there {w : World} {b : Nat} {T : TypeId} {cs : Array Value} (h : Bx w b T cs) : w.there b 0 cs.size := fun j hj => by
  rw [Nat.zero_add, h.cell j]
  exact ⟨by simp [hj], h.frozen j⟩
theorem Kp.setCells {w w' : World} (h : Kp w w') {b : Nat} (hb : w.heap.size ≤ b) : ∀ (vs : List Value) (o : Nat), Kp w (w'.setCells b o vs) := by
  intro vs
  induction vs generalizing w' with
  | nil => intro o; exact h
  | cons v vs ih => intro o; exact ih (h.setNew hb v) (o + 1)
end Go.Proofs.YtobldbodafaajaaGreatDoor

/- What the landed code asks of a tree, in plain words: leaves that aren't blank, and what comes of going through them. Nothing of a dump. -/
set_option linter.unusedVariables false
set_option linter.unusedSimpArgs false
namespace Go.Proofs.YtobldbodafaajaaGreatDoor
open Go.RowKit

/-- Of n leaves from a on those that aren't blank. -/
def nbL (t : List Nod) (a n : Nat) : List Nat := ((List.range n).map (a + ·)).filter fun i => decide (¬ (ats t (2 * i)).kind = 0)
theorem nbL_zero (t : List Nod) (a : Nat) : nbL t a 0 = [] := rfl
theorem nbL_succ (t : List Nod) (a k : Nat) : nbL t a (k + 1) = nbL t a k ++ if (ats t (2 * (a + k))).kind = 0 then [] else [a + k] := by
  unfold nbL
  rw [List.range_succ, List.map_append, List.filter_append]
  congr 1
  by_cases h : (ats t (2 * (a + k))).kind = 0
  · simp [h]
  · simp [h]
theorem nbL_mem {t : List Nod} {a n i : Nat} : i ∈ nbL t a n ↔ a ≤ i ∧ i < a + n ∧ ¬ (ats t (2 * i)).kind = 0 := by
  unfold nbL
  simp only [List.mem_filter, List.mem_map, List.mem_range, decide_eq_true_eq]
  constructor
  · rintro ⟨⟨k, h1, rfl⟩, h2⟩
    exact ⟨by omega, by omega, h2⟩
  · rintro ⟨h1, h2, h3⟩
    exact ⟨⟨i - a, by omega, by omega⟩, h3⟩
theorem nbL_sorted (t : List Nod) (a n : Nat) : (nbL t a n).Pairwise (· < ·) := by
  unfold nbL
  refine List.Pairwise.filter _ ?_
  rw [List.pairwise_map]
  refine List.Pairwise.imp ?_ List.pairwise_lt_range
  intro x y h
  omega
theorem nbL_split (t : List Nod) (a k m : Nat) : nbL t a (k + m) = nbL t a k ++ nbL t (a + k) m := by
  induction m with
  | zero => simp [nbL_zero]
  | succ m ih => rw [← Nat.add_assoc, nbL_succ, ih, nbL_succ, List.append_assoc, Nat.add_assoc]
theorem nbL_get {t : List Nod} {a n k : Nat} (hk : k < n) (h : ¬ (ats t (2 * (a + k))).kind = 0) : (nbL t a n)[(nbL t a k).length]? = some (a + k) := by
  obtain ⟨m, rfl⟩ : ∃ m, n = (k + 1) + m := ⟨n - (k + 1), by omega⟩
  rw [nbL_split, nbL_succ, if_neg h, List.append_assoc, List.getElem?_append_right (Nat.le_refl _), Nat.sub_self]
  rfl
theorem nbL_len {t : List Nod} {a n : Nat} : (nbL t a n).length ≤ n := by
  unfold nbL
  refine Nat.le_trans (List.length_filter_le ..) ?_
  simp
theorem nbL_lt {t : List Nod} {a n k : Nat} (hk : k < n) (h : ¬ (ats t (2 * (a + k))).kind = 0) : (nbL t a k).length < (nbL t a n).length := (List.getElem?_eq_some_iff.1 (nbL_get hk h)).1
theorem nbL_next {t : List Nod} {a k : Nat} (h : ¬ (ats t (2 * (a + k))).kind = 0) : (nbL t a (k + 1)).length = (nbL t a k).length + 1 := by rw [nbL_succ, if_neg h]; simp
theorem nbL_same {t : List Nod} {a k : Nat} (h : (ats t (2 * (a + k))).kind = 0) : (nbL t a (k + 1)).length = (nbL t a k).length := by rw [nbL_succ, if_pos h]; simp
theorem nbL_at {t : List Nod} {a n i : Nat} (h : i < (nbL t a n).length) : a ≤ (nbL t a n).getD i 0 ∧ (nbL t a n).getD i 0 < a + n ∧ ¬ (ats t (2 * (nbL t a n).getD i 0)).kind = 0 := by
  rw [List.getD_eq_getElem?_getD, List.getElem?_eq_getElem h, Option.getD_some]
  exact nbL_mem.1 (List.getElem_mem h)
theorem nbL_of {t : List Nod} {a n i : Nat} (h1 : a ≤ i) (h2 : i < a + n) (h3 : ¬ (ats t (2 * i)).kind = 0) : ∃ m, m < (nbL t a n).length ∧ (nbL t a n).getD m 0 = i := by
  obtain ⟨m, hm, e⟩ := List.getElem_of_mem (nbL_mem.2 ⟨h1, h2, h3⟩)
  exact ⟨m, hm, by rw [List.getD_eq_getElem?_getD, List.getElem?_eq_getElem hm, Option.getD_some, e]⟩
theorem nbL_mono {t : List Nod} {a n i j : Nat} (hj : j < (nbL t a n).length) (h : i < j) : (nbL t a n).getD i 0 < (nbL t a n).getD j 0 := by
  rw [List.getD_eq_getElem?_getD, List.getElem?_eq_getElem (by omega), Option.getD_some, List.getD_eq_getElem?_getD, List.getElem?_eq_getElem hj, Option.getD_some]
  exact List.pairwise_iff_getElem.1 (nbL_sorted t a n) i j _ hj h

/-- gap. -/
theorem gap_nb {t : List Nod} {i : Nat} (h1 : ∀ m, m < i → (nbL t 0 (lvs t)).getD m 0 = m) (hi : i ≤ (nbL t 0 (lvs t)).length) (h2 : i < (nbL t 0 (lvs t)).length → (nbL t 0 (lvs t)).getD i 0 ≠ i) : gapN t = i := by
  refine gap_eq (Nat.le_trans hi nbL_len) (fun hl => ?_) (fun k hk => ?_)
  · refine Decidable.byContradiction fun hne => ?_
    obtain ⟨m, hm, e⟩ := nbL_of (t := t) (a := 0) (n := lvs t) (i := i) (by omega) (by omega) hne
    rcases Nat.lt_trichotomy m i with h | h | h
    · have := h1 m h; omega
    · subst h; exact h2 hm e
    · have h3 := nbL_mono (t := t) (a := 0) (n := lvs t) hm h
      by_cases h0 : i = 0
      · subst h0; omega
      · have h4 := nbL_mono (t := t) (a := 0) (n := lvs t) (i := i - 1) (j := i) (by omega) (by omega)
        have h5 := h1 (i - 1) (by omega)
        have : (nbL t 0 (lvs t)).getD i 0 = i := by omega
        exact h2 (by omega) this
  · have h3 := (nbL_at (t := t) (a := 0) (n := lvs t) (i := k) (by omega)).2.2
    rw [h1 k hk] at h3
    exact h3

/-- areBelow: going through the leaves tells whether un is a part of them, in order. -/
def isBel (un : List Int) (L : List Nat) : Bool := un.isSublist (L.map fun (n : Nat) => (n : Int))
theorem sub_of_sorted : ∀ (b a : List Int), a.Pairwise (· < ·) → b.Pairwise (· < ·) → (∀ x ∈ a, x ∈ b) → a.Sublist b
  | [], a, _, _, h => by
    cases a with
    | nil => exact List.Sublist.slnil
    | cons x a => exact absurd (h x (List.mem_cons_self ..)) (List.not_mem_nil)
  | y :: b, a, ha, hb, h => by
    cases a with
    | nil => exact List.nil_sublist _
    | cons x a =>
      rw [List.pairwise_cons] at ha hb
      by_cases e : x = y
      · subst e
        refine List.Sublist.cons_cons x (sub_of_sorted b a ha.2 hb.2 fun z hz => ?_)
        rcases List.mem_cons.1 (h z (List.mem_cons_of_mem _ hz)) with h1 | h1
        · have := ha.1 z hz; omega
        · exact h1
      · refine List.Sublist.cons y (sub_of_sorted b (x :: a) (List.pairwise_cons.2 ha) hb.2 fun z hz => ?_)
        rcases List.mem_cons.1 (h z hz) with h1 | h1
        · have hx : x ∈ b := (List.mem_cons.1 (h x (List.mem_cons_self ..))).resolve_left e
          have h2 := hb.1 x hx
          rcases List.mem_cons.1 hz with h3 | h3
          · omega
          · have := ha.1 z h3; omega
        · exact h1
theorem isBel_iff (un : List Int) (t : List Nod) (a n : Nat) : isBel un (nbL t a n) = true ↔ un.Pairwise (· < ·) ∧ ∀ x ∈ un, ∃ i : Nat, x = (i : Int) ∧ a ≤ i ∧ i < a + n ∧ ¬ (ats t (2 * i)).kind = 0 := by
  unfold isBel
  rw [List.isSublist_iff_sublist]
  have hs : ((nbL t a n).map fun (n : Nat) => (n : Int)).Pairwise (· < ·) := by
    rw [List.pairwise_map]
    exact (nbL_sorted t a n).imp fun h => by omega
  constructor
  · intro h
    refine ⟨hs.sublist h, fun x hx => ?_⟩
    obtain ⟨i, hi, rfl⟩ := List.mem_map.1 (h.subset hx)
    exact ⟨i, rfl, nbL_mem.1 hi⟩
  · rintro ⟨h1, h2⟩
    refine sub_of_sorted _ _ h1 hs fun x hx => ?_
    obtain ⟨i, rfl, hi⟩ := h2 x hx
    exact List.mem_map.2 ⟨i, nbL_mem.2 hi, rfl⟩
theorem isBel_nil (un : List Int) : isBel un [] = decide (un.length = 0) := by
  unfold isBel
  cases un with
  | nil => rfl
  | cons x un => rfl
theorem isBel_cons (un : List Int) (x : Nat) (L : List Nat) : isBel un (x :: L) = if un.head? = some (x : Int) then isBel un.tail L else isBel un L := by
  unfold isBel
  cases un with
  | nil => simp [List.isSublist]
  | cons y un =>
    by_cases h : y = (x : Int)
    · simp [List.isSublist, h]
    · simp [List.isSublist, h]
/-- Its state on the way: so many have been met. -/
theorem bel_step {un : List Int} {L : List Nat} {m i : Nat} (hi : i < L.length) :
    isBel (un.drop m) (L.drop i) = isBel (un.drop (if m < un.length ∧ un.getD m 0 = (L.getD i 0 : Nat) then m + 1 else m)) (L.drop (i + 1)) := by
  rw [List.drop_eq_getElem_cons hi, isBel_cons]
  have e1 : L.getD i 0 = L[i] := by rw [List.getD_eq_getElem?_getD, List.getElem?_eq_getElem hi]; rfl
  rw [e1]
  by_cases hm : m < un.length
  · have e2 : un.getD m 0 = un[m] := by rw [List.getD_eq_getElem?_getD, List.getElem?_eq_getElem hm]; rfl
    rw [e2]
    have e3 : (un.drop m).head? = some un[m] := by rw [List.drop_eq_getElem_cons hm]; rfl
    rw [e3]
    by_cases he : un[m] = (L[i] : Int)
    · rw [if_pos (show some un[m] = some (L[i] : Int) by rw [he]), if_pos (show m < un.length ∧ un[m] = (L[i] : Int) from ⟨hm, he⟩), List.tail_drop]
    · rw [if_neg (show ¬ some un[m] = some (L[i] : Int) from fun h => he (Option.some.inj h)), if_neg (show ¬ (m < un.length ∧ un[m] = (L[i] : Int)) from fun h => he h.2)]
  · have e3 : un.drop m = [] := List.drop_eq_nil_of_le (by omega)
    rw [if_neg (show ¬ (m < un.length ∧ un.getD m 0 = (L[i] : Int)) from fun h => hm h.1), e3]
    rfl

/-- Names, sorted and put together: as many as before just if each is another one. -/
theorem compact_len (l : List Int) : (Lib.compact (l.mergeSort)).length = l.length ↔ l.Nodup := by
  have hp := List.mergeSort_perm l (fun a b => decide (a ≤ b))
  have hs : (l.mergeSort).Pairwise (· ≤ ·) := by
    have := List.pairwise_mergeSort (le := fun (a b : Int) => decide (a ≤ b)) (fun a b c h1 h2 => by simp at *; omega) (fun a b => by simp; omega) l
    exact this.imp fun h => by simpa using h
  rw [← hp.nodup_iff, ← hp.length_eq]
  generalize l.mergeSort = s at *
  unfold Lib.compact Lib.compactUpTo
  rw [List.length_map]
  constructor
  · intro h
    have h2 : ∀ j, j < s.length → Lib.keeps s.toArray j = true := by
      have h3 : (List.range s.length).filter (Lib.keeps s.toArray) = List.range s.length := by
        refine List.Sublist.eq_of_length (List.filter_sublist) ?_
        rw [h, List.length_range]
      intro j hj
      have h4 : j ∈ (List.range s.length).filter (Lib.keeps s.toArray) := by rw [h3]; exact List.mem_range.2 hj
      exact (List.mem_filter.1 h4).2
    have h5 : ∀ j (hj : j + 1 < s.length), s[j] < s[j + 1] := by
      intro j hj
      have h6 := h2 (j + 1) hj
      have h7 := List.pairwise_iff_getElem.1 hs j (j + 1) (by omega) hj (by omega)
      have h8 : s[j + 1] ≠ s[j] := by
        intro e
        have h9 := Lib.keeps_neg (d := s.toArray) (m := j + 1) (by omega) (by simp [getElem!_pos, hj, show j < s.length by omega, e])
        rw [h9] at h6
        cases h6
      omega
    have h6 : ∀ d i (hi : i + d + 1 < s.length), s[i] < s[i + d + 1] := by
      intro d
      induction d with
      | zero => intro i hi; exact h5 i hi
      | succ d ih =>
        intro i hi
        have a1 := ih i (by omega)
        have a2 := h5 (i + d + 1) (by omega)
        exact Int.lt_trans a1 a2
    rw [List.nodup_iff_pairwise_ne, List.pairwise_iff_getElem]
    intro i j hi hj hij
    obtain ⟨d, rfl⟩ : ∃ d, j = i + d + 1 := ⟨j - i - 1, by omega⟩
    have := h6 d i hj
    omega
  · intro h
    have h3 : (List.range s.length).filter (Lib.keeps s.toArray) = List.range s.length := by
      refine List.filter_eq_self.2 fun j hj => ?_
      have hj2 := List.mem_range.1 hj
      by_cases h0 : j < 1
      · exact Lib.keeps_lt_one _ j h0
      · refine Lib.keeps_pos ?_
        rw [List.nodup_iff_pairwise_ne, List.pairwise_iff_getElem] at h
        have := h (j - 1) j (by omega) hj2 (by omega)
        simp [getElem!_pos, hj2, show j - 1 < s.length by omega]
        exact fun e => this e.symm
    rw [h3, List.length_range]
end Go.Proofs.YtobldbodafaajaaGreatDoor

/- The ratchet tree: what the statements ask, in plain words. Nothing of a dump. -/
set_option linter.unusedVariables false
set_option linter.unusedSimpArgs false
namespace Go.Proofs.YtobldbodafaajaaGreatDoor
open Go.RowKit

/-- Are all leaves but one the same? -/
def othersP (a b : List Nod) (but : Int) : Prop := ∀ i : Nat, (i : Int) ≠ but → ats a (2 * i) = ats b (2 * i)
theorem add_yes {t : List Nod} {name : Int} {pub : List UInt8} (h : addE t name pub = 0) : mayP name pub ∧ findB t name = false ∧ gapN t ≠ 1024 ∧ addV t name pub = addT t name pub ∧ addI t name pub = ((gapN t : Nat) : Int) := by
  have h2 : addV t name pub = addT t name pub ∧ addI t name pub = ((gapN t : Nat) : Int) := by
    unfold addV addI
    rw [h]
    exact ⟨rfl, rfl⟩
  unfold addE at h
  split at h
  · next hm =>
    split at h
    · omega
    · next hf =>
      split at h
      · omega
      · next hg => exact ⟨hm, by rw [Bool.eq_false_iff]; exact hf, hg, h2⟩
  · omega
theorem add_none {t : List Nod} {name : Int} {pub : List UInt8} (h : addE t name pub ≠ 0) : addV t name pub = t ∧ addI t name pub = 0 := by
  unfold addV addI
  rw [if_neg h, if_neg h]
  exact ⟨rfl, rfl⟩
theorem rem_yes {t : List Nod} {i : Int} (h : remE t i = 0) : thereP t i ∧ ¬ emptyP (goneT t i.toNat) 0 ∧ remV t i = shrinkT 11 (goneT t i.toNat) := by
  have h2 : remV t i = shrinkT 11 (goneT t i.toNat) := by unfold remV; rw [if_pos h]
  unfold remE at h
  split at h
  · next ht =>
    split at h
    · omega
    · next he => exact ⟨ht, he, h2⟩
  · omega
theorem rem_none {t : List Nod} {i : Int} (h : remE t i ≠ 0) : remV t i = t := by unfold remV; rw [if_neg h]
theorem upd_yes {t : List Nod} {i : Int} {pub : List UInt8} (h : updE t i pub = 0) : pub.length = 32 ∧ thereP t i ∧ updV t i pub = updT t i.toNat pub := by
  have h2 : updV t i pub = updT t i.toNat pub := by unfold updV; rw [if_pos h]
  unfold updE at h
  split at h
  · next hp =>
    split at h
    · next ht => exact ⟨hp, ht, h2⟩
    · omega
  · omega
theorem upd_none {t : List Nod} {i : Int} {pub : List UInt8} (h : updE t i pub ≠ 0) : updV t i pub = t := by unfold updV; rw [if_neg h]
theorem RightK.thereN {t : List Nod} {K : Nat} {i : Int} (h : RightK t K) (hi : thereP t i) : ∃ k : Nat, i = (k : Int) ∧ k < 2 ^ K ∧ (ats t (2 * k)).kind = 1 ∧ 2 * k < t.length := by
  obtain ⟨h1, h2, h3⟩ := hi
  obtain ⟨k, rfl⟩ := Int.eq_ofNat_of_zero_le h1
  rw [Int.toNat_natCast] at h3
  have := h.lv
  have := RightK.lt_of (t := t) (x := 2 * k) (by rw [h3]; decide)
  exact ⟨k, rfl, by omega, h3, this⟩
theorem RightK.there_iff {t : List Nod} {K : Nat} (h : RightK t K) (k : Nat) : thereP t (k : Int) ↔ (ats t (2 * k)).kind = 1 := by
  constructor
  · intro hi
    have := hi.2.2
    rwa [Int.toNat_natCast] at this
  · intro hk
    have := RightK.lt_of (t := t) (x := 2 * k) (by rw [hk]; decide)
    exact ⟨by omega, by unfold lvs; omega, by rw [Int.toNat_natCast]; exact hk⟩
theorem RightK.addR {t : List Nod} {K : Nat} (h : RightK t K) (name : Int) (pub : List UInt8) : ∃ K', RightK (addV t name pub) K' := by
  by_cases e : addE t name pub = 0
  · obtain ⟨h1, h2, h3, h4, h5⟩ := add_yes e
    rw [h4]
    exact ⟨_, h.add h1 h2 h3⟩
  · rw [(add_none e).1]; exact ⟨K, h⟩
theorem RightK.remR {t : List Nod} {K : Nat} (h : RightK t K) (i : Int) : ∃ K', RightK (remV t i) K' := by
  by_cases e : remE t i = 0
  · obtain ⟨h1, h2, h3⟩ := rem_yes e
    obtain ⟨k, rfl, hk, _, _⟩ := h.thereN h1
    rw [h3]
    rw [Int.toNat_natCast] at h2 ⊢
    obtain ⟨K', _, hr, _⟩ := h.rem hk h2
    exact ⟨K', hr⟩
  · rw [rem_none e]; exact ⟨K, h⟩
theorem RightK.updR {t : List Nod} {K : Nat} (h : RightK t K) (i : Int) (pub : List UInt8) : ∃ K', RightK (updV t i pub) K' := by
  by_cases e : updE t i pub = 0
  · obtain ⟨h1, h2, h3⟩ := upd_yes e
    obtain ⟨k, rfl, hk, hk1, _⟩ := h.thereN h2
    rw [h3, Int.toNat_natCast]
    exact ⟨K, h.upd hk1 h1⟩
  · rw [upd_none e]; exact ⟨K, h⟩
theorem RightK.new {name : Int} {pub : List UInt8} (h : mayP name pub) : RightK [leafN name pub] 0 := by
  have e0 : ats [leafN name pub] 0 = leafN name pub := rfl
  refine ⟨by omega, rfl, fun x hx => ?_, fun x y hxy hy => by simp at hy; omega, ⟨0, by simp, rfl⟩⟩
  have : x = 0 := by simpa using hx
  subst this
  rw [show okP [leafN name pub] 0 ↔ _ from Iff.rfl]
  exact .inr ⟨rfl, h, .inl rfl, fun _ => rfl, fun h2 => absurd h2 (show ¬ (1 : Int) = 2 by decide)⟩

/-- STAYS: leaves of an added, removed, changed one. -/
theorem RightK.add_leaf {t : List Nod} {K : Nat} (h : RightK t K) {name : Int} {pub : List UInt8} (e : addE t name pub = 0) (k : Nat) : ats (addV t name pub) (2 * k) = if k = gapN t then leafN name pub else ats t (2 * k) := by
  obtain ⟨h1, h2, h3, h4, h5⟩ := add_yes e
  rw [h4, h.addAt h3]
  by_cases hk : k = gapN t
  · rw [if_pos hk, if_pos (by omega)]
  · rw [if_neg hk, if_neg (by omega), if_neg]
    rintro ⟨hm, _⟩
    have := path_odd hm
    omega
theorem RightK.rem_leaf {t : List Nod} {K : Nat} (h : RightK t K) {i : Int} (e : remE t i = 0) (k : Nat) : ats (remV t i) (2 * k) = if (k : Int) = i then blankN else ats t (2 * k) := by
  obtain ⟨h1, h2, h3⟩ := rem_yes e
  obtain ⟨j, rfl, hj, _, _⟩ := h.thereN h1
  rw [h3]
  rw [Int.toNat_natCast] at h2 ⊢
  obtain ⟨K', _, _, _, hl, _⟩ := h.rem hj h2
  rw [hl]
  by_cases hk : k = j
  · rw [if_pos hk, if_pos (by omega)]
  · rw [if_neg hk, if_neg (by omega)]
theorem RightK.upd_leaf {t : List Nod} {K : Nat} (h : RightK t K) {i : Int} {pub : List UInt8} (e : updE t i pub = 0) (k : Nat) : ats (updV t i pub) (2 * k) = if (k : Int) = i then leafN (ats t (2 * k)).name pub else ats t (2 * k) := by
  obtain ⟨h1, h2, h3⟩ := upd_yes e
  obtain ⟨j, rfl, hj, _, _⟩ := h.thereN h2
  rw [h3, Int.toNat_natCast, h.updAt hj]
  by_cases hk : k = j
  · subst hk
    rw [if_pos rfl, if_pos rfl]
  · rw [if_neg (show ¬ 2 * k = 2 * j by omega), if_neg (show ¬ 2 * k ∈ pathN K 0 j from fun hm => by have := path_odd hm; omega), if_neg (show ¬ (k : Int) = (j : Int) by omega)]
theorem RightK.add_others {t : List Nod} {K : Nat} (h : RightK t K) (name : Int) (pub : List UInt8) : othersP t (addV t name pub) (addI t name pub) := fun k hk => by
  by_cases e : addE t name pub = 0
  · rw [h.add_leaf e, if_neg]
    rw [(add_yes e).2.2.2.2] at hk
    omega
  · rw [(add_none e).1]
theorem RightK.rem_others {t : List Nod} {K : Nat} (h : RightK t K) (i : Int) : othersP t (remV t i) i := fun k hk => by
  by_cases e : remE t i = 0
  · rw [h.rem_leaf e, if_neg hk]
  · rw [rem_none e]
theorem RightK.upd_others {t : List Nod} {K : Nat} (h : RightK t K) (i : Int) (pub : List UInt8) : othersP t (updV t i pub) i := fun k hk => by
  by_cases e : updE t i pub = 0
  · rw [h.upd_leaf e, if_neg hk]
  · rw [upd_none e]
theorem RightK.add_find {t : List Nod} {K : Nat} (h : RightK t K) {name : Int} {pub : List UInt8} (e : addE t name pub = 0) : findB (addV t name pub) name = true ∧ findV (addV t name pub) name = addI t name pub := by
  obtain ⟨K', hr⟩ := h.addR name pub
  have hl := h.add_leaf e (gapN t)
  rw [if_pos rfl] at hl
  have h1 := find_at hr (i := gapN t) (by rw [hl]; rfl)
  rw [hl] at h1
  have h2 : findB (addV t name pub) name = true := h1.1
  refine ⟨h2, ?_⟩
  unfold findV
  rw [h2, (add_yes e).2.2.2.2]
  exact congrArg _ h1.2
theorem RightK.rem_find {t : List Nod} {K : Nat} (h : RightK t K) {i : Int} (e : remE t i = 0) : findB (remV t i) (ats t (2 * i.toNat)).name = false := by
  obtain ⟨h1, h2, h3⟩ := rem_yes e
  obtain ⟨j, rfl, hj, hj1, hjl⟩ := h.thereN h1
  rw [Int.toNat_natCast]
  refine find_none fun k _ hc => ?_
  rw [h.rem_leaf e] at hc
  by_cases hk : (k : Int) = (j : Int)
  · rw [if_pos hk] at hc
    exact absurd hc.1 (show ¬ (0 : Int) = 1 by decide)
  · rw [if_neg hk] at hc
    have hkl := RightK.lt_of (t := t) (x := 2 * k) (by rw [hc.1]; decide)
    rcases Nat.lt_or_gt_of_ne (show k ≠ j by omega) with h4 | h4
    · exact h.one (2 * k) (2 * j) (by omega) hjl hc.1 hj1 hc.2
    · exact h.one (2 * j) (2 * k) (by omega) hkl hj1 hc.1 hc.2.symm

/-- BACK. -/
theorem RightK.back_rem {t : List Nod} {K : Nat} (h : RightK t K) {name : Int} {pub : List UInt8} (e : addE t name pub = 0) : remE (addV t name pub) (addI t name pub) = 0 ∧ othersP t (remV (addV t name pub) (addI t name pub)) (-1) := by
  obtain ⟨K', hr⟩ := h.addR name pub
  have hA := h.add_leaf e
  obtain ⟨a1, a2, a3, a4, a5⟩ := add_yes e
  have hg : (ats (addV t name pub) (2 * gapN t)).kind = 1 := by rw [hA, if_pos rfl]; rfl
  have h0 := h.gap0
  have e1 : remE (addV t name pub) (addI t name pub) = 0 := by
    rw [a5]
    unfold remE
    rw [if_pos ((hr.there_iff _).2 hg), Int.toNat_natCast, if_neg]
    rw [hr.gone_left hg]
    intro hno
    obtain ⟨x, hx, hx1⟩ := h.used
    have hev := ok_even (h.okA x) hx1
    have hne : x / 2 ≠ gapN t := fun e2 => by
      have e3 : x = 2 * gapN t := by omega
      rw [e3, h0] at hx1
      cases hx1
    have := hno (x / 2) hne
    rw [hA, if_neg hne, show 2 * (x / 2) = x by omega] at this
    exact this hx1
  refine ⟨e1, fun k _ => ?_⟩
  rw [hr.rem_leaf e1, a5, hA]
  by_cases hk : k = gapN t
  · subst hk
    rw [if_pos rfl, h0]
  · rw [if_neg (by omega), if_neg hk]
theorem RightK.back_upd {t : List Nod} {K : Nat} (h : RightK t K) {name : Int} {pub p q : List UInt8} (e : addE t name pub = 0) (hp : p.length = 32) (hq : q.length = 32) :
    updE (addV t name pub) (addI t name pub) p = 0 ∧ updE (updV (addV t name pub) (addI t name pub) p) (addI t name pub) q = 0 ∧ updV (updV (addV t name pub) (addI t name pub) p) (addI t name pub) q = updV (addV t name pub) (addI t name pub) q := by
  obtain ⟨K', hr⟩ := h.addR name pub
  have hA := h.add_leaf e
  obtain ⟨a1, a2, a3, a4, a5⟩ := add_yes e
  have hg : (ats (addV t name pub) (2 * gapN t)).kind = 1 := by rw [hA, if_pos rfl]; rfl
  have hth := (hr.there_iff _).2 hg
  rw [a5]
  generalize addV t name pub = x at *
  generalize gapN t = g at *
  have e1 : updE x (g : Int) p = 0 := by unfold updE; rw [if_pos hp, if_pos hth]
  have e1q : updE x (g : Int) q = 0 := by unfold updE; rw [if_pos hq, if_pos hth]
  obtain ⟨_, _, u3⟩ := upd_yes e1
  obtain ⟨_, _, v3⟩ := upd_yes e1q
  rw [Int.toNat_natCast] at u3 v3
  have hu : RightK (updT x g p) K' := hr.upd hg hp
  obtain ⟨j, hj, hjK, _, _⟩ := hr.thereN hth
  have hjg : j = g := by omega
  subst hjg
  have uA := hr.updAt hjK p
  have hg2 : (ats (updT x j p) (2 * j)).kind = 1 := by rw [uA, if_pos rfl]; rfl
  have e2 : updE (updV x (j : Int) p) (j : Int) q = 0 := by unfold updE; rw [if_pos hq, u3, if_pos ((hu.there_iff _).2 hg2)]
  refine ⟨e1, e2, ?_⟩
  obtain ⟨_, _, w3⟩ := upd_yes e2
  rw [w3, u3, v3, Int.toNat_natCast]
  refine ats_ext (by rw [RightK.updLen, RightK.updLen, RightK.updLen]) fun z => ?_
  rw [hu.updAt hjK q, hr.updAt hjK q, uA, uA]
  by_cases h1 : z = 2 * j
  · rw [if_pos h1, if_pos h1, if_pos rfl]; rfl
  · rw [if_neg h1, if_neg h1]
    by_cases h2 : z ∈ pathN K' 0 j
    · rw [if_pos h2, if_neg h1, if_pos h2]
    · rw [if_neg h2, if_neg h1, if_neg h2]
end Go.Proofs.YtobldbodafaajaaGreatDoor
