/- A leaf's path laid anew, without Un. Plain. -/
import Derived.Test.YtobldbodafaajaaDoorHashTold
set_option linter.unusedVariables false
set_option linter.unusedSimpArgs false
namespace Go.Proofs.YtobldbodafaajaaDoor
open Go.RowKit

/-- Nodes over others are laid anew, or blanked. -/
theorem RightK.over {t u : List Nod} {K : Nat} (h : RightK t K) (hl : u.length = t.length) (hy : ∀ y, ats u y = ats t y ∨ (y % 2 = 1 ∧ (ats u y = blankN ∨ ∃ p : List UInt8, p.length = 32 ∧ ats u y = ⟨2, 0, p, [], []⟩))) : RightK u K := by
  have hev : ∀ i, ats u (2 * i) = ats t (2 * i) := fun i => by
    rcases hy (2 * i) with e | ⟨e, _⟩
    · exact e
    · omega
  have h1 : ∀ y, (ats u y).kind = 1 → ats u y = ats t y := fun y hk => by
    rcases hy y with e | ⟨_, e | ⟨p, _, e⟩⟩
    · exact e
    · rw [e] at hk; cases hk
    · rw [e] at hk; cases hk
  refine ⟨h.le, hl.trans h.len, fun y hyl => ?_, fun x y hxy hyl k1 k2 => ?_, ?_⟩
  · rcases hy y with e | ⟨ho, e | ⟨p, hp, e⟩⟩
    · rcases h.okA y with h2 | ⟨a1, a2, a3, a4, a5⟩
      · exact .inl (e.trans h2)
      · refine .inr ?_
        rw [e]
        exact ⟨a1, a2, a3, a4, fun e2 => ⟨(a5 e2).1, (a5 e2).2.1, fun i hi => by
          have := (a5 e2).2.2 i hi
          rw [hev]
          exact this⟩⟩
    · exact .inl e
    · refine .inr ?_
      rw [e]
      refine ⟨?_, ⟨Int.le_refl 0, show (0 : Int) ≤ 65535 by decide, hp⟩, .inl rfl, fun e2 => rfl, fun _ => ⟨rfl, List.Pairwise.nil, fun i hi => by cases hi⟩⟩
      show (2 : Int) = 1 + (y : Int) % 2
      omega
  · have e1 := h1 x k1
    have e2 := h1 y k2
    rw [e1] at k1 ⊢
    rw [e2] at k2 ⊢
    exact h.one x y hxy (hl ▸ hyl) k1 k2
  · obtain ⟨x, hx, k⟩ := h.used
    refine ⟨x, hl ▸ hx, ?_⟩
    have he : x % 2 = 0 := by
      rcases h.okA x with e | ⟨e, _⟩
      · rw [e] at k; cases k
      · omega
    rcases hy x with e | ⟨ho, _⟩
    · rw [e]; exact k
    · omega
theorem TidyT.over {t u : List Nod} {K : Nat} (h : TidyT t K) (hl : u.length = t.length) (hy : ∀ y, ats u y = ats t y ∨ (y % 2 = 1 ∧ (ats u y = blankN ∨ ∃ p : List UInt8, p.length = 32 ∧ ats u y = ⟨2, 0, p, [], []⟩))) : TidyT u K := by
  refine ⟨h.le, hl.trans h.len, fun y => ?_, fun y hk => ?_⟩
  · rcases hy y with e | ⟨_, e | ⟨p, hp, e⟩⟩
    · rw [e]; exact h.node y
    · rw [e]; exact TidyN.blank
    · rw [e]
      exact ⟨.inr (.inr rfl), ⟨Int.le_refl 0, show (0 : Int) ≤ 65535 by decide⟩, by simp only [hp]; decide, Nat.zero_le _, Nat.zero_le _, fun i hi => by cases hi⟩
  · rcases hy y with e | ⟨ho, _⟩
    · rw [e] at hk; exact h.par y hk
    · exact ho
def parH (b : UInt8) (k : Nat) : Nod := ⟨2, 0, ((List.replicate 32 0).set 0 b).set 1 (UInt8.ofNat k), [], []⟩
/-- The tree behind k nodes of the path. C: is the k-th copath's node not empty? -/
def holdU (t : List Nod) (j : Nat) (b : UInt8) (C : Nat → Bool) : Nat → List Nod
  | 0 => t
  | k + 1 => (holdU t j b C k).set (nd (k + 1) (j / 2 ^ (k + 1))) (if C k then parH b k else blankN)
theorem hold_len (t : List Nod) (j : Nat) (b : UInt8) (C : Nat → Bool) : ∀ k, (holdU t j b C k).length = t.length
  | 0 => rfl
  | k + 1 => by unfold holdU; rw [List.length_set]; exact hold_len t j b C k
theorem hold_at {t : List Nod} {K j : Nat} (hj : j < 2 ^ K) (hl : t.length = 2 ^ (K + 1) - 1) (b : UInt8) (C : Nat → Bool) : ∀ k, k ≤ K → ∀ y,
    ((∀ i, i < k → y ≠ nd (i + 1) (j / 2 ^ (i + 1))) → ats (holdU t j b C k) y = ats t y) ∧ (ats (holdU t j b C k) y = ats t y ∨ (y % 2 = 1 ∧ (ats (holdU t j b C k) y = blankN ∨ ∃ p : List UInt8, p.length = 32 ∧ ats (holdU t j b C k) y = ⟨2, 0, p, [], []⟩)))
  | 0, _, y => ⟨fun _ => rfl, .inl rfl⟩
  | k + 1, hk, y => by
    obtain ⟨h1, h2⟩ := hold_at hj hl b C k (by omega) y
    have hx : nd (k + 1) (j / 2 ^ (k + 1)) < (holdU t j b C k).length := by
      rw [hold_len, hl]
      have := quot_lt (K := K) (j := 0) (q := j) (i := k + 1) (by simpa using hj) (by omega)
      exact nd_lt (by omega) (by simpa using this)
    have hodd := nd_odd k (j / 2 ^ (k + 1))
    unfold holdU
    rw [ats_set _ _ _ _ hx]
    by_cases e : y = nd (k + 1) (j / 2 ^ (k + 1))
    · rw [if_pos e]
      refine ⟨fun h => absurd e (h k (by omega)), .inr ⟨by omega, ?_⟩⟩
      by_cases hc : C k = true
      · rw [if_pos hc]
        exact .inr ⟨_, by simp, rfl⟩
      · rw [if_neg hc]
        exact .inl rfl
    · rw [if_neg e]
      exact ⟨fun h => h1 fun i hi => h i (by omega), h2⟩
theorem hold_right {t : List Nod} {K j : Nat} (hr : RightK t K) (hT : TidyT t K) (hj : j < 2 ^ K) (b : UInt8) (C : Nat → Bool) : RightK (holdU t j b C K) K ∧ TidyT (holdU t j b C K) K ∧ ats (holdU t j b C K) (2 * j) = ats t (2 * j) ∧
    ∀ y, y ∉ pathN K 0 j → ats (holdU t j b C K) y = ats t y := by
  have hA := hold_at hj hr.len b C K (Nat.le_refl _)
  refine ⟨hr.over (hold_len ..) fun y => (hA y).2, hT.over (hold_len ..) fun y => (hA y).2, (hA (2 * j)).1 fun i hi e => ?_, fun y hy => (hA y).1 fun i hi e => hy ?_⟩
  · have := nd_odd i (j / 2 ^ (i + 1)); omega
  · rw [e]
    unfold pathN
    exact List.mem_map.2 ⟨i, List.mem_range.2 (by omega), by rw [show 0 + 1 + i = i + 1 by omega]⟩
theorem path_row {K j y : Nat} : (∀ a, a < K → y ≠ rowJ K j a) ↔ y ∉ pathN K 0 j := by
  unfold pathN rowJ
  constructor
  · intro h hm
    obtain ⟨i, hi, e⟩ := List.mem_map.1 hm
    have hi2 := List.mem_range.1 hi
    refine h (K - 1 - i) (by omega) ?_
    rw [← e, show K - (K - 1 - i) = i + 1 by omega, show 0 + 1 + i = i + 1 by omega]
  · intro h a ha e
    refine h ?_
    rw [e]
    exact List.mem_map.2 ⟨K - 1 - a, List.mem_range.2 (by omega), by rw [show K - 1 - a + 1 = K - a by omega, show 0 + 1 + (K - 1 - a) = K - a by omega]⟩
end Go.Proofs.YtobldbodafaajaaDoor
