/- What the document says of layer 10's calls, as plain functions. -/
import Derived.Test.YtobldbodafaajaaGreatDoorTreePl9
import Derived.Test.YtobldbodafaajaaGreatDoorShaA10
import Derived.Test.YtobldbodafaajaaGreatDoorShaB10
import Derived.Test.YtobldbodafaajaaGreatDoorRefTree9
set_option linter.unusedVariables false
set_option linter.unusedSimpArgs false
namespace Go.Proofs.YtobldbodafaajaaGreatDoor
open Go.RowKit

/-- A row of numbers, each of two bytes. -/
def unB (l : List Int) : List UInt8 := l.flatMap fun i => be 2 i.toNat
/-- A node's bytes. -/
def nodeB (n : Nod) : List UInt8 :=
  if n.kind = 1 then [1] ++ be 2 n.name.toNat ++ rowB n.pub ++ rowB n.hash
  else if n.kind = 2 then [2] ++ rowB n.pub ++ rowB n.hash ++ rowB (unB n.un)
  else [0]
/-- A node of few bytes whose numbers are in their bounds. -/
structure TidyN (n : Nod) : Prop where
  kind : n.kind = 0 ∨ n.kind = 1 ∨ n.kind = 2
  name : 0 ≤ n.name ∧ n.name ≤ 65535
  pub : n.pub.length ≤ 40
  hash : n.hash.length ≤ 40
  unl : n.un.length ≤ 100
  un : ∀ i ∈ n.un, 0 ≤ i ∧ i ≤ 1023
theorem unB_length (l : List Int) : (unB l).length = 2 * l.length := by
  unfold unB
  induction l with
  | nil => rfl
  | cons a l ih => rw [List.flatMap_cons, List.length_append, ih, be_length, List.length_cons]; omega
theorem unB_snoc (l : List Int) (i : Int) : unB (l ++ [i]) = unB l ++ be 2 i.toNat := by
  unfold unB
  rw [List.flatMap_append]
  simp
theorem rowB_le {x : List UInt8} (h : x.length ≤ 1000) : (rowB x).length ≤ x.length + 2 := by
  rw [row_len (by omega), lenBytes_length]
  split
  · omega
  · rw [if_pos (by omega)]; omega
theorem nodeB_len {n : Nod} (h : TidyN n) : (nodeB n).length ≤ 300 ∧ 1 ≤ (nodeB n).length := by
  have h1 := rowB_le (x := n.pub) (by have := h.pub; omega)
  have h2 := rowB_le (x := n.hash) (by have := h.hash; omega)
  have h3 := rowB_le (x := unB n.un) (by rw [unB_length]; have := h.unl; omega)
  have h4 := h.pub
  have h5 := h.hash
  have h6 := h.unl
  rw [unB_length] at h3
  unfold nodeB
  split
  · simp only [List.length_append, be_length, List.length_cons, List.length_nil]; omega
  · split
    · simp only [List.length_append, List.length_cons, List.length_nil]; omega
    · simp

/-- A node without leaves that don't count. -/
def lessN (n : Nod) (g : List Int) : Nod := ⟨n.kind, n.name, n.pub, n.un.filter fun i => decide (i ∉ g), n.hash⟩
theorem TidyN.less {n : Nod} (h : TidyN n) (g : List Int) : TidyN (lessN n g) :=
  ⟨h.kind, h.name, h.pub, h.hash, Nat.le_trans (List.length_filter_le _ _) h.unl, fun i hi => h.un i (List.mem_filter.1 hi).1⟩
theorem TidyN.blank : TidyN blankN := ⟨.inl rfl, by decide, by decide, by decide, by decide, fun i hi => by cases hi⟩
/-- A tree's digest at the q-th node of level j, without leaves that don't count. -/
def digF (t : List Nod) (g : List Int) : Nat → Nat → List UInt8
  | 0, q => digest ([1] ++ be 2 q ++ nodeB (if (q : Int) ∈ g then blankN else ats t (nd 0 q)))
  | j + 1, q => digest ([2] ++ nodeB (lessN (ats t (nd (j + 1) q)) g) ++ rowB (digF t g j (2 * q)) ++ rowB (digF t g j (2 * q + 1)))
theorem digest_len (l : List UInt8) : (digest l).length = 32 := by
  unfold digest
  exact bytes_length _
theorem digF_len (t : List Nod) (g : List Int) (j q : Nat) : (digF t g j q).length = 32 := by
  cases j <;> exact digest_len _
/-- A tree of tidy nodes. -/
structure TidyT (t : List Nod) (K : Nat) : Prop where
  le : K ≤ 10
  len : t.length = 2 ^ (K + 1) - 1
  node : ∀ x, TidyN (ats t x)
  par : ∀ x, (ats t x).kind = 2 → x % 2 = 1
def treE (t : List Nod) (x : Int) : Int := if 0 ≤ x ∧ x < t.length then 0 else 1
def treV (t : List Nod) (x : Int) : List UInt8 := if treE t x = 0 then digF t [] (lev x.toNat) (qOf x.toNat) else []
def aboE (t : List Nod) (x side : Int) : Int :=
  if 0 ≤ x ∧ x < t.length ∧ 0 ≤ side ∧ side ≤ 1 then (if (ats t x.toNat).kind = 2 then 0 else 11) else 1
/-- The node's other child: of the left side the right one. -/
def othQ (side : Int) (q : Nat) : Nat := if side = 0 then 2 * q + 1 else 2 * q
def aboT (t : List Nod) (x : Nat) (side : Int) : List UInt8 :=
  digest ([3] ++ rowB (ats t x).pub ++ rowB (ats t x).hash ++ rowB (digF t (ats t x).un (lev x - 1) (othQ side (qOf x))))
def aboV (t : List Nod) (x side : Int) : List UInt8 := if aboE t x side = 0 then aboT t x.toNat side else []
theorem aboV_len (t : List Nod) (x side : Int) : (aboV t x side).length ≤ 32 := by
  unfold aboV
  split
  · unfold aboT; rw [digest_len]; exact Nat.le_refl _
  · simp
/-- A node with another Hash. -/
def hashN (n : Nod) (h : List UInt8) : Nod := ⟨n.kind, n.name, n.pub, n.un, h⟩
/-- A step down a leaf's path: the tree, and what is told. -/
def layS (i : Nat) (s : List Nod × List UInt8) (x : Nat) : List Nod × List UInt8 :=
  if (ats s.1 x).kind = 2 then
    (s.1.set x (hashN (ats s.1 x) s.2), aboV (s.1.set x (hashN (ats s.1 x) s.2)) (x : Int) (if x < 2 * i then 1 else 0))
  else s
def layD (t : List Nod) (i : Nat) : List Nod × List UInt8 := (pathT t i).reverse.foldl (layS i) (t, [])
def layE (t : List Nod) (i : Int) : Int := if thereP t i then 0 else 11
def layV (t : List Nod) (i : Int) : List Nod :=
  if thereP t i then (layD t i.toNat).1.set (2 * i.toNat) (hashN (ats (layD t i.toNat).1 (2 * i.toNat)) (layD t i.toNat).2) else t
/-- Is a parent told by a node below it, on a side? -/
def heldS (t : List Nod) (x : Nat) (side : Int) : Prop :=
  ∃ y ∈ resV t ((nd (lev x - 1) (if side = 1 then 2 * qOf x + 1 else 2 * qOf x) : Nat) : Int), ¬ (y % 2 = 0 ∧ y / 2 ∈ (ats t x).un) ∧ (ats t y.toNat).hash = aboV t (x : Int) side
def heldP (t : List Nod) : Prop := ∀ x, x < t.length → (ats t x).kind = 2 → heldS t x 0 ∨ heldS t x 1
end Go.Proofs.YtobldbodafaajaaGreatDoor

/- Trees of few bytes: right and small ones are tidy, and stay so when nodes get another Hash; they stay right, too. Plain. -/
set_option linter.unusedVariables false
set_option linter.unusedSimpArgs false
namespace Go.Proofs.YtobldbodafaajaaGreatDoor
open Go.RowKit

theorem RightK.tidy {t : List Nod} {K : Nat} (h : RightK t K) (hs : smallP t 40) : TidyT t K := by
  have hk : ∀ x, (ats t x).kind = 2 → x % 2 = 1 := fun x hx => by
    rcases h.okA x with h1 | ⟨h1, _⟩
    · rw [h1] at hx; cases hx
    · omega
  refine ⟨h.le, h.len, fun x => ?_, hk⟩
  by_cases hx : x < t.length
  · rcases h.okA x with h1 | ⟨h1, ⟨h2, h3, h4⟩, h5, h6, h7⟩
    · rw [h1]; exact TidyN.blank
    · have hm : ats t x ∈ t := by rw [ats_get hx]; exact List.getElem_mem hx
      obtain ⟨s1, s2, s3⟩ := hs.2 _ hm
      refine ⟨by omega, ⟨h2, h3⟩, s1, s2, by omega, fun i hi => ?_⟩
      obtain ⟨j, q, rfl, hj, hq⟩ := nd_of K x (by rw [← h.len]; exact hx)
      obtain ⟨_, y1, y2⟩ := nd_small h.le hj hq
      obtain ⟨k, rfl, hkq, hk1⟩ := h.unAt y1 y2 i hi
      have hk2 : 2 * k < t.length := by
        refine Nat.lt_of_not_le fun hle => ?_
        rw [ats_over hle] at hk1
        cases hk1
      have hl := h.len2
      have hp := p2_le h.le
      omega
  · rw [ats_over (by omega)]; exact TidyN.blank
theorem TidyN.hashed {n : Nod} (h : TidyN n) {b : List UInt8} (hb : b.length ≤ 40) : TidyN (hashN n b) := ⟨h.kind, h.name, h.pub, hb, h.unl, h.un⟩
theorem TidyT.hashed {t : List Nod} {K : Nat} (h : TidyT t K) (x : Nat) {b : List UInt8} (hb : b.length ≤ 40) (hx : x < t.length) : TidyT (t.set x (hashN (ats t x) b)) K := by
  refine ⟨h.le, by rw [List.length_set]; exact h.len, fun y => ?_, fun y hy => ?_⟩
  · rw [ats_set _ _ _ _ hx]
    split
    · exact (h.node x).hashed hb
    · exact h.node y
  · rw [ats_set _ _ _ _ hx] at hy
    split at hy
    · next e => subst e; exact h.par _ hy
    · exact h.par y hy
theorem hash_unP {t u : List Nod} (hk : ∀ i, (ats u i).kind = (ats t i).kind) {a b : Int} {l : List Int} (h : unP t a b l) : unP u a b l :=
  ⟨h.1, fun i hi => by rw [hk]; exact h.2 i hi⟩
/-- A node that isn't Blank gets a Hash of none or 32 bytes: the tree is right still. -/
theorem RightK.hashed {t : List Nod} {K : Nat} (h : RightK t K) (x : Nat) {b : List UInt8} (hb : b.length = 0 ∨ b.length = 32) (hx : x < t.length) (hne : (ats t x).kind ≠ 0) : RightK (t.set x (hashN (ats t x) b)) K := by
  have hA := ats_set t x (hashN (ats t x) b)
  have hk : ∀ y, (ats (t.set x (hashN (ats t x) b)) y).kind = (ats t y).kind := fun y => by
    rw [hA y hx]; split
    · next e => subst e; rfl
    · rfl
  have hn : ∀ y, (ats (t.set x (hashN (ats t x) b)) y).name = (ats t y).name := fun y => by
    rw [hA y hx]; split
    · next e => subst e; rfl
    · rfl
  refine ⟨h.le, by rw [List.length_set]; exact h.len, fun y hy => ?_, fun y z hyz hz h1 h2 => ?_, ?_⟩
  · rw [List.length_set] at hy
    by_cases e : y = x
    · subst e
      rcases h.okA y with h1 | ⟨h1, h2, h3, h4, h5⟩
      · rw [h1] at hne; exact absurd rfl hne
      · refine .inr ?_
        rw [hA y hx, if_pos rfl]
        exact ⟨h1, h2, hb, h4, fun e2 => ⟨(h5 e2).1, hash_unP hk (h5 e2).2⟩⟩
    · have e2 : ats (t.set x (hashN (ats t x) b)) y = ats t y := by rw [hA y hx, if_neg e]
      rcases h.okA y with h1 | ⟨h1, h2, h3, h4, h5⟩
      · exact .inl (e2.trans h1)
      · refine .inr ?_
        rw [e2]
        exact ⟨h1, h2, h3, h4, fun e3 => ⟨(h5 e3).1, hash_unP hk (h5 e3).2⟩⟩
  · rw [hk] at h1 h2
    rw [hn, hn]
    rw [List.length_set] at hz
    exact h.one y z hyz hz h1 h2
  · obtain ⟨y, hy, h1⟩ := h.used
    exact ⟨y, by rw [List.length_set]; exact hy, by rw [hk]; exact h1⟩
theorem aboV_or (t : List Nod) (x side : Int) : (aboV t x side).length = 0 ∨ (aboV t x side).length = 32 := by
  unfold aboV
  split
  · exact .inr (digest_len _)
  · exact .inl rfl
/-- A step down the path: what it leaves. -/
theorem layS_keeps {t : List Nod} {K i : Nat} {s : List Nod × List UInt8} {x : Nat} (hx : x < t.length) (h1 : TidyT s.1 K) (h2 : s.1.length = t.length) (h3 : s.2.length = 0 ∨ s.2.length = 32) :
    TidyT (layS i s x).1 K ∧ (layS i s x).1.length = t.length ∧ ((layS i s x).2.length = 0 ∨ (layS i s x).2.length = 32) ∧ (RightK s.1 K → RightK (layS i s x).1 K) := by
  unfold layS
  split
  · next hk =>
    refine ⟨h1.hashed x (by omega) (by omega), by rw [List.length_set]; exact h2, aboV_or _ _ _, fun hr => hr.hashed x h3 (by omega) (by rw [hk]; decide)⟩
  · exact ⟨h1, h2, h3, fun h => h⟩
theorem layF_keeps {t : List Nod} {K i : Nat} : ∀ (l : List Nat) (s : List Nod × List UInt8), (∀ x ∈ l, x < t.length) → TidyT s.1 K → s.1.length = t.length → (s.2.length = 0 ∨ s.2.length = 32) →
    TidyT (l.foldl (layS i) s).1 K ∧ (l.foldl (layS i) s).1.length = t.length ∧ ((l.foldl (layS i) s).2.length = 0 ∨ (l.foldl (layS i) s).2.length = 32) ∧ (RightK s.1 K → RightK (l.foldl (layS i) s).1 K)
  | [], s, _, h1, h2, h3 => ⟨h1, h2, h3, fun h => h⟩
  | x :: l, s, hl, h1, h2, h3 => by
    obtain ⟨g1, g2, g3, g4⟩ := layS_keeps (i := i) (hl x (by simp)) h1 h2 h3
    obtain ⟨f1, f2, f3, f4⟩ := layF_keeps (i := i) l (layS i s x) (fun y hy => hl y (by simp [hy])) g1 g2 g3
    exact ⟨f1, f2, f3, fun h => f4 (g4 h)⟩
end Go.Proofs.YtobldbodafaajaaGreatDoor

/- The example at the head of layer 10's statements: a tree of two leaves and a parent. Plain. -/
set_option linter.unusedVariables false
set_option linter.unusedSimpArgs false
namespace Go.Proofs.YtobldbodafaajaaGreatDoor
open Go.RowKit

def z10 : List UInt8 := List.replicate 32 0
def HA10 : List Nod := [⟨1, 1, z10, [], []⟩]
def HB10 : List Nod := [⟨1, 1, z10, [], []⟩, blankN, ⟨1, 2, z10, [], []⟩]
def HT10 : List Nod := [⟨1, 1, z10, [], []⟩, ⟨2, 0, z10, [], []⟩, ⟨1, 2, z10, [], []⟩]
def HD10 : List UInt8 := aboV HT10 1 0
def HU10 : List Nod := HT10.set 0 (hashN (ats HT10 0) HD10)
theorem h10_add : newE 1 z10 = 0 ∧ newV 1 z10 = HA10 ∧ addE HA10 2 z10 = 0 ∧ addV HA10 2 z10 = HB10 := by decide +kernel
theorem h10_set : HB10.set 1 ⟨2, 0, z10, [], []⟩ = HT10 := rfl
theorem h10_rightA : RightK HA10 0 := (h10_add.2.1) ▸ (RightK.new (by decide))
theorem h10_right : RightK HT10 1 := by
  refine ⟨by omega, rfl, fun x hx => ?_, fun x y hxy hy h1 h2 => ?_, ⟨0, by decide, rfl⟩⟩
  · have hx3 : x < 3 := hx
    rcases (show x = 0 ∨ x = 1 ∨ x = 2 by omega) with rfl | rfl | rfl
    · exact .inr ⟨rfl, by decide, .inl rfl, fun _ => rfl, fun h => (by cases h)⟩
    · exact .inr ⟨rfl, by decide, .inl rfl, fun h => (by cases h), fun _ => ⟨rfl, List.Pairwise.nil, fun i hi => absurd hi List.not_mem_nil⟩⟩
    · exact .inr ⟨rfl, by decide, .inl rfl, fun _ => rfl, fun h => (by cases h)⟩
  · have hy3 : y < 3 := hy
    rcases (show (x = 0 ∧ y = 1) ∨ (x = 0 ∧ y = 2) ∨ (x = 1 ∧ y = 2) by omega) with ⟨rfl, rfl⟩ | ⟨rfl, rfl⟩ | ⟨rfl, rfl⟩
    · cases h2
    · decide
    · cases h1
theorem h10_small : smallP HT10 40 := ⟨by decide, by decide⟩
theorem h10_tidy : TidyT HT10 1 := h10_right.tidy h10_small
theorem h10_aboE : aboE HT10 1 0 = 0 ∧ aboE HT10 1 1 = 0 := by decide +kernel
theorem h10_len : HD10.length = 32 ∧ (aboV HT10 1 1).length = 32 := by
  unfold HD10 aboV
  rw [if_pos h10_aboE.1, if_pos h10_aboE.2]
  exact ⟨digest_len _, digest_len _⟩
theorem h10_rightU : RightK HU10 1 := h10_right.hashed 0 (.inr h10_len.1) (by decide) (by decide)
theorem h10_tidyU : TidyT HU10 1 := h10_tidy.hashed 0 (by rw [h10_len.1]; decide) (by decide)
theorem h10_at (x : Nat) : ats HU10 x = if x = 0 then hashN (ats HT10 0) HD10 else ats HT10 x := ats_set _ _ _ _ (by decide)
theorem h10_lay : layE HT10 0 = 0 ∧ layV HT10 0 = HU10 := by
  have e1 : thereP HT10 0 := by decide +kernel
  have e2 : pathT HT10 0 = [1] := by decide +kernel
  refine ⟨if_pos e1, ?_⟩
  have e3 : layD HT10 0 = (HT10, HD10) := by
    unfold layD
    rw [e2]
    show layS 0 (HT10, []) 1 = _
    unfold layS
    rw [if_pos (show (ats (HT10, ([] : List UInt8)).1 1).kind = 2 from rfl)]
    rfl
  unfold layV
  rw [if_pos e1]
  show (layD HT10 0).1.set 0 (hashN (ats (layD HT10 0).1 0) (layD HT10 0).2) = _
  rw [e3]
  rfl
theorem h10_abo : aboE HU10 1 0 = 0 ∧ aboV HU10 1 0 = HD10 := by
  have e0 : aboE HU10 1 0 = 0 := by
    unfold aboE
    rw [if_pos (show (0 : Int) ≤ 1 ∧ (1 : Int) < (HU10.length : Int) ∧ (0 : Int) ≤ 0 ∧ (0 : Int) ≤ 1 from ⟨by decide, by unfold HU10; rw [List.length_set]; decide, by decide, by decide⟩), if_pos (show (ats HU10 (1 : Int).toNat).kind = 2 from by rw [h10_at]; rfl)]
  refine ⟨e0, ?_⟩
  unfold HD10 aboV
  rw [if_pos e0, if_pos h10_aboE.1]
  have e1 : ats HU10 1 = ats HT10 1 := by rw [h10_at, if_neg (by decide)]
  have e2 : ats HU10 2 = ats HT10 2 := by rw [h10_at, if_neg (by decide)]
  have e3 : ∀ g, digF HU10 g 0 1 = digF HT10 g 0 1 := fun g => by
    unfold digF
    rw [show nd 0 1 = 2 from rfl, e2]
  unfold aboT
  rw [show (1 : Int).toNat = 1 from rfl, show lev 1 - 1 = 0 by decide +kernel, show othQ 0 (qOf 1) = 1 by decide +kernel, e1, e3]
theorem h10_hash : (ats HU10 0).hash = HD10 := by rw [h10_at, if_pos rfl]; rfl
theorem h10_tre : treE HU10 1 = 0 ∧ (treV HU10 1).length = 32 ∧ treE HU10 3 = 1 := by
  have hl : HU10.length = 3 := by unfold HU10; rw [List.length_set]; rfl
  have e : treE HU10 1 = 0 := if_pos ⟨by decide, by rw [hl]; decide⟩
  refine ⟨e, ?_, if_neg (by rw [hl]; decide)⟩
  unfold treV
  rw [if_pos e]
  exact digF_len _ _ _ _
theorem h10_res : resV HU10 ((nd (lev 1 - 1) (2 * qOf 1) : Nat) : Int) = [0] ∧ resV HT10 ((nd (lev 1 - 1) (2 * qOf 1) : Nat) : Int) = [0] ∧ resV HT10 ((nd (lev 1 - 1) (2 * qOf 1 + 1) : Nat) : Int) = [2] := by
  refine ⟨?_, by decide +kernel, by decide +kernel⟩
  rw [show nd (lev 1 - 1) (2 * qOf 1) = nd 0 0 by decide +kernel, res_nd h10_rightU (Nat.zero_le _) (by decide)]
  unfold resF
  rw [show nd 0 0 = 0 from rfl, h10_at, if_pos rfl]
  rfl
theorem h10_held : heldP HU10 ∧ ¬ heldP HT10 := by
  have hl : HU10.length = 3 := by unfold HU10; rw [List.length_set]; rfl
  constructor
  · intro x hx hk
    rw [hl] at hx
    rcases (show x = 0 ∨ x = 1 ∨ x = 2 by omega) with rfl | rfl | rfl
    · rw [h10_at, if_pos rfl] at hk; cases hk
    · refine .inl ⟨0, ?_, ?_, ?_⟩
      · rw [if_neg (by decide), h10_res.1]; exact List.mem_cons_self ..
      · rw [h10_at, if_neg (by decide)]; exact fun h => absurd h.2 List.not_mem_nil
      · show (ats HU10 0).hash = aboV HU10 1 0
        rw [h10_hash, h10_abo.2]
    · rw [h10_at, if_neg (by decide)] at hk; cases hk
  · intro h
    have h32 := h10_len
    rcases h 1 (by decide) rfl with ⟨y, hy, _, he⟩ | ⟨y, hy, _, he⟩
    · rw [if_neg (by decide), h10_res.2.1] at hy
      obtain rfl : y = 0 := by simpa using hy
      have : (ats HT10 (0 : Int).toNat).hash = HD10 := he
      rw [← this] at h32
      exact absurd h32.1 (by decide)
    · rw [if_pos rfl, h10_res.2.2] at hy
      obtain rfl : y = 2 := by simpa using hy
      have : (ats HT10 (2 : Int).toNat).hash = aboV HT10 1 1 := he
      rw [← this] at h32
      exact absurd h32.2 (by decide)
theorem h10_blank : nodeB blankN = [0] := rfl
end Go.Proofs.YtobldbodafaajaaGreatDoor

/- A node with another Pub; what a digest hangs on. Plain. -/
set_option linter.unusedVariables false
set_option linter.unusedSimpArgs false
namespace Go.Proofs.YtobldbodafaajaaGreatDoor
open Go.RowKit

def pubN (n : Nod) (p : List UInt8) : Nod := ⟨n.kind, n.name, p, n.un, n.hash⟩
theorem TidyT.pubbed {t : List Nod} {K : Nat} (h : TidyT t K) (x : Nat) {p : List UInt8} (hp : p.length ≤ 40) (hx : x < t.length) : TidyT (t.set x (pubN (ats t x) p)) K := by
  refine ⟨h.le, by rw [List.length_set]; exact h.len, fun y => ?_, fun y hy => ?_⟩
  · rw [ats_set _ _ _ _ hx]
    split
    · have hn := h.node x
      exact ⟨hn.kind, hn.name, hp, hn.hash, hn.unl, hn.un⟩
    · exact h.node y
  · rw [ats_set _ _ _ _ hx] at hy
    split at hy
    · next e => subst e; exact h.par _ hy
    · exact h.par y hy
theorem RightK.pubbed {t : List Nod} {K : Nat} (h : RightK t K) (x : Nat) {p : List UInt8} (hp : p.length = 32) (hx : x < t.length) (hne : (ats t x).kind ≠ 0) : RightK (t.set x (pubN (ats t x) p)) K := by
  have hA := ats_set t x (pubN (ats t x) p)
  have hk : ∀ y, (ats (t.set x (pubN (ats t x) p)) y).kind = (ats t y).kind := fun y => by
    rw [hA y hx]; split
    · next e => subst e; rfl
    · rfl
  have hn : ∀ y, (ats (t.set x (pubN (ats t x) p)) y).name = (ats t y).name := fun y => by
    rw [hA y hx]; split
    · next e => subst e; rfl
    · rfl
  refine ⟨h.le, by rw [List.length_set]; exact h.len, fun y hy => ?_, fun y z hyz hz h1 h2 => ?_, ?_⟩
  · rw [List.length_set] at hy
    by_cases e : y = x
    · subst e
      rcases h.okA y with h1 | ⟨h1, h2, h3, h4, h5⟩
      · rw [h1] at hne; exact absurd rfl hne
      · refine .inr ?_
        rw [hA y hx, if_pos rfl]
        exact ⟨h1, ⟨h2.1, h2.2.1, hp⟩, h3, h4, fun e2 => ⟨(h5 e2).1, hash_unP hk (h5 e2).2⟩⟩
    · have e2 : ats (t.set x (pubN (ats t x) p)) y = ats t y := by rw [hA y hx, if_neg e]
      rcases h.okA y with h1 | ⟨h1, h2, h3, h4, h5⟩
      · exact .inl (e2.trans h1)
      · refine .inr ?_
        rw [e2]
        exact ⟨h1, h2, h3, h4, fun e3 => ⟨(h5 e3).1, hash_unP hk (h5 e3).2⟩⟩
  · rw [hk] at h1 h2
    rw [hn, hn]
    rw [List.length_set] at hz
    exact h.one y z hyz hz h1 h2
  · obtain ⟨y, hy, h1⟩ := h.used
    exact ⟨y, by rw [List.length_set]; exact hy, by rw [hk]; exact h1⟩
/-- A digest hangs on the nodes below alone. -/
theorem digF_congr {t u : List Nod} (g : List Int) : ∀ (j q : Nat), (∀ i d, i + d = j → ∀ p, p / 2 ^ d = q → ats t (nd i p) = ats u (nd i p)) → digF t g j q = digF u g j q
  | 0, q, h => by
    unfold digF
    rw [h 0 0 rfl q (by simp)]
  | j + 1, q, h => by
    have hl : digF t g j (2 * q) = digF u g j (2 * q) := digF_congr g j (2 * q) fun i d e p hp => h i (d + 1) (by omega) p (by rw [Nat.pow_succ, ← Nat.div_div_eq_div_mul, hp]; omega)
    have hr : digF t g j (2 * q + 1) = digF u g j (2 * q + 1) := digF_congr g j (2 * q + 1) fun i d e p hp => h i (d + 1) (by omega) p (by rw [Nat.pow_succ, ← Nat.div_div_eq_div_mul, hp]; omega)
    show digest _ = digest _
    rw [hl, hr, h (j + 1) 0 rfl q (by simp)]
/-- A node that isn't below leaves the digest. -/
theorem digF_out {t : List Nod} (g : List Int) (x : Nat) (n : Nod) {K j q : Nat} (hx : x < t.length) (hj : j ≤ K) (hK : K ≤ 10) (h : ∀ i d, i + d = j → ∀ p, p / 2 ^ d = q → nd i p ≠ x) : digF (t.set x n) g j q = digF t g j q :=
  digF_congr g j q fun i d e p hp => by rw [ats_set _ _ _ _ hx, if_neg (h i d e p hp)]
end Go.Proofs.YtobldbodafaajaaGreatDoor

/- A tree that Laid laid: as tidy and as right as it was. Plain. -/
set_option linter.unusedVariables false
set_option linter.unusedSimpArgs false
namespace Go.Proofs.YtobldbodafaajaaGreatDoor
open Go.RowKit

theorem layS_kind {i : Nat} {s : List Nod × List UInt8} {x : Nat} (hx : x < s.1.length) (y : Nat) : (ats (layS i s x).1 y).kind = (ats s.1 y).kind := by
  unfold layS
  split
  · show (ats (s.1.set x _) y).kind = _
    rw [ats_set _ _ _ _ hx]
    split
    · next e => subst e; rfl
    · rfl
  · rfl
theorem layS_len {i : Nat} {s : List Nod × List UInt8} {x : Nat} : (layS i s x).1.length = s.1.length := by
  unfold layS
  split
  · exact List.length_set ..
  · rfl
theorem layF_kind {i : Nat} : ∀ (l : List Nat) (s : List Nod × List UInt8), (∀ x ∈ l, x < s.1.length) → ∀ y, (ats (l.foldl (layS i) s).1 y).kind = (ats s.1 y).kind
  | [], s, _, y => rfl
  | x :: l, s, h, y => by
    show (ats (l.foldl (layS i) (layS i s x)).1 y).kind = _
    rw [layF_kind l (layS i s x) (fun z hz => by rw [layS_len]; exact h z (by simp [hz])) y, layS_kind (h x (by simp)) y]
theorem layD_keeps {t : List Nod} {K i : Nat} (hr : RightK t K) (hT : TidyT t K) (hi : i < 2 ^ K) :
    TidyT (layD t i).1 K ∧ (layD t i).1.length = t.length ∧ ((layD t i).2.length = 0 ∨ (layD t i).2.length = 32) ∧ RightK (layD t i).1 K ∧ ∀ y, (ats (layD t i).1 y).kind = (ats t y).kind := by
  obtain ⟨_, q2, _⟩ := path_in hr.le hr.len hi
  have hm : ∀ x ∈ (pathT t i).reverse, x < t.length := fun x hx => by
    obtain ⟨k, hk, rfl⟩ := List.getElem_of_mem (List.mem_reverse.1 hx)
    have := q2 k hk
    rwa [List.getD_eq_getElem?_getD, List.getElem?_eq_getElem hk] at this
  obtain ⟨f1, f2, f3, f4⟩ := layF_keeps (t := t) (K := K) (i := i) (pathT t i).reverse (t, []) hm hT rfl (.inl rfl)
  exact ⟨f1, f2, f3, f4 hr, layF_kind _ _ hm⟩
theorem layV_keeps {t : List Nod} {K : Nat} (hr : RightK t K) (hT : TidyT t K) (i : Int) : RightK (layV t i) K ∧ TidyT (layV t i) K ∧ (layV t i).length = t.length := by
  by_cases h : thereP t i
  · obtain ⟨k, rfl⟩ := Int.eq_ofNat_of_zero_le h.1
    have h2 := h.2.1
    rw [hr.lv] at h2
    have hl := hr.len2
    obtain ⟨d1, d2, d3, d4, d5⟩ := layD_keeps hr hT (show k < 2 ^ K by omega)
    have hk := (hr.there_iff k).1 h
    have e : layV t (k : Int) = (layD t k).1.set (2 * k) (hashN (ats (layD t k).1 (2 * k)) (layD t k).2) := by
      unfold layV
      rw [if_pos h, Int.toNat_natCast]
    rw [e]
    refine ⟨d4.hashed (2 * k) d3 (by omega) (by rw [d5, hk]; decide), d1.hashed (2 * k) (by omega) (by omega), by rw [List.length_set]; exact d2⟩
  · have e : layV t i = t := if_neg h
    rw [e]
    exact ⟨hr, hT, rfl⟩
end Go.Proofs.YtobldbodafaajaaGreatDoor
