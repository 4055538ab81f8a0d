/- Where nodes stand in a tree: the node of level j that is the q-th there, its level, children, parent, sibling, leaves, path. Plain. -/
import Derived.Test.YtcomgbneacbncaaDoorBase2
set_option linter.unusedVariables false
set_option linter.unusedSimpArgs false
namespace Go.Proofs.YtcomgbneacbncaaDoor
open Go.RowKit

/-- The q-th node of level j. -/
def nd (j q : Nat) : Nat := 2 ^ (j + 1) * q + 2 ^ j - 1
theorem p2_pos (k : Nat) : 1 ≤ 2 ^ k := Nat.one_le_two_pow
theorem p2_succ (k : Nat) : 2 ^ (k + 1) = 2 * 2 ^ k := by rw [Nat.pow_succ]; omega
theorem nd_leaf (q : Nat) : nd 0 q = 2 * q := by unfold nd; simp
theorem nd_succ (j q : Nat) : nd (j + 1) q = 2 * nd j q + 1 := by
  unfold nd
  rw [p2_succ (j + 1), p2_succ j, Nat.mul_assoc]
  have := p2_pos j
  omega
theorem nd_half (j q : Nat) : nd (j + 1) q / 2 = nd j q := by rw [nd_succ]; omega
theorem nd_odd (j q : Nat) : nd (j + 1) q % 2 = 1 := by rw [nd_succ]; omega
theorem nd_even (q : Nat) : nd 0 q % 2 = 0 := by rw [nd_leaf]; omega
theorem nd_left (j q : Nat) : nd (j + 1) q - 2 ^ j = nd j (2 * q) ∧ 2 ^ j ≤ nd (j + 1) q := by
  unfold nd
  rw [p2_succ (j + 1), p2_succ j]
  have := p2_pos j
  have e : 2 * (2 * 2 ^ j) * q = 2 * 2 ^ j * (2 * q) := by rw [Nat.mul_comm 2 (2 * 2 ^ j), Nat.mul_assoc]
  rw [e]
  omega
theorem nd_right (j q : Nat) : nd (j + 1) q + 2 ^ j = nd j (2 * q + 1) := by
  unfold nd
  rw [p2_succ (j + 1), p2_succ j, Nat.mul_add]
  have := p2_pos j
  have e : 2 * (2 * 2 ^ j) * q = 2 * 2 ^ j * (2 * q) := by rw [Nat.mul_comm 2 (2 * 2 ^ j), Nat.mul_assoc]
  rw [e]
  omega
theorem nd_inj {j q i r : Nat} (h : nd j q = nd i r) : j = i ∧ q = r := by
  induction j generalizing i with
  | zero =>
    cases i with
    | zero => rw [nd_leaf, nd_leaf] at h; exact ⟨rfl, by omega⟩
    | succ i => have h1 := nd_even q; have h2 := nd_odd i r; omega
  | succ j ih =>
    cases i with
    | zero => have h1 := nd_even r; have h2 := nd_odd j q; omega
    | succ i =>
      rw [nd_succ, nd_succ] at h
      obtain ⟨h1, h2⟩ := ih (i := i) (by omega)
      exact ⟨by omega, h2⟩
theorem nd_of : ∀ (K x : Nat), x < 2 ^ (K + 1) - 1 → ∃ j q, x = nd j q ∧ j ≤ K ∧ q < 2 ^ (K - j)
  | 0, x, h => ⟨0, 0, by simp at h; rw [nd_leaf]; omega, Nat.le_refl _, by simp⟩
  | K + 1, x, h => by
    by_cases hx : x % 2 = 0
    · refine ⟨0, x / 2, by rw [nd_leaf]; omega, by omega, ?_⟩
      rw [p2_succ] at h
      rw [Nat.sub_zero]
      omega
    · obtain ⟨j, q, e, hj, hq⟩ := nd_of K (x / 2) (by rw [p2_succ] at h; omega)
      refine ⟨j + 1, q, by rw [nd_succ, ← e]; omega, by omega, ?_⟩
      rw [Nat.add_sub_add_right]
      exact hq
theorem nd_lt {j q K : Nat} (hj : j ≤ K) (hq : q < 2 ^ (K - j)) : nd j q < 2 ^ (K + 1) - 1 := by
  have e : 2 ^ (K + 1) = 2 ^ (j + 1) * 2 ^ (K - j) := by rw [← Nat.pow_add]; congr 1; omega
  have h1 : 2 ^ (j + 1) * (q + 1) ≤ 2 ^ (K + 1) := by rw [e]; exact Nat.mul_le_mul_left _ hq
  rw [Nat.mul_add, Nat.mul_one] at h1
  unfold nd
  have := p2_pos j
  have := p2_succ j
  omega
theorem nd_in {j q K : Nat} (h : nd j q < 2 ^ (K + 1) - 1) : j ≤ K ∧ q < 2 ^ (K - j) := by
  obtain ⟨i, r, e, hi, hr⟩ := nd_of K _ h
  obtain ⟨rfl, rfl⟩ := nd_inj e
  exact ⟨hi, hr⟩
/-- The root. -/
theorem nd_root (K : Nat) : nd K 0 = 2 ^ K - 1 := by unfold nd; simp
theorem nd_is_root {j q K : Nat} (hq : q < 2 ^ (K - j)) (hj : j ≤ K) : nd j q = 2 ^ K - 1 ↔ j = K := by
  constructor
  · intro h
    rw [← nd_root] at h
    exact (nd_inj h).1
  · rintro rfl
    simp at hq
    subst hq
    exact nd_root j

/-- The level. -/
def levF : Nat → Nat → Nat
  | 0, _ => 0
  | f + 1, x => if x % 2 = 1 then levF f (x / 2) + 1 else 0
def lev (x : Nat) : Nat := levF 12 x
theorem levF_nd : ∀ (f j q : Nat), j < f → levF f (nd j q) = j
  | 0, j, q, h => by omega
  | f + 1, 0, q, h => by unfold levF; rw [if_neg (by have := nd_even q; omega)]
  | f + 1, j + 1, q, h => by unfold levF; rw [if_pos (nd_odd j q), nd_half, levF_nd f j q (by omega)]
theorem lev_nd (j q : Nat) (h : j ≤ 11) : lev (nd j q) = j := levF_nd 12 j q (by omega)

/-- The first and the last leaf. -/
theorem nd_leaves (j q : Nat) : (nd j q - (2 ^ j - 1)) / 2 = 2 ^ j * q ∧ (nd j q + (2 ^ j - 1)) / 2 = 2 ^ j * q + 2 ^ j - 1 := by
  unfold nd
  rw [p2_succ j, Nat.mul_assoc]
  have := p2_pos j
  constructor <;> omega
theorem under_iff (j q b : Nat) : 2 ^ j * q ≤ b ∧ b ≤ 2 ^ j * q + 2 ^ j - 1 ↔ b / 2 ^ j = q := by
  have hp := p2_pos j
  constructor
  · rintro ⟨h1, h2⟩
    refine Nat.le_antisymm ?_ ?_
    · exact Nat.lt_succ_iff.1 ((Nat.div_lt_iff_lt_mul (by omega)).2 (by rw [Nat.succ_mul, Nat.mul_comm]; omega))
    · exact (Nat.le_div_iff_mul_le (by omega)).2 (by rw [Nat.mul_comm]; exact h1)
  · rintro rfl
    have h1 := Nat.div_add_mod b (2 ^ j)
    have h2 := Nat.mod_lt b (show 0 < 2 ^ j by omega)
    omega
/-- The other child's place. -/
def sq (q : Nat) : Nat := if q % 2 = 0 then q + 1 else q - 1
theorem sq_even (r : Nat) : sq (2 * r) = 2 * r + 1 := by unfold sq; rw [if_pos (by omega)]
theorem sq_odd (r : Nat) : sq (2 * r + 1) = 2 * r := by unfold sq; rw [if_neg (by omega)]; omega
theorem sq_half (q : Nat) : sq q / 2 = q / 2 := by unfold sq; split <;> omega
theorem sq_lt {q n : Nat} (h : q < 2 ^ (n + 1)) : sq q < 2 ^ (n + 1) := by
  have := p2_succ n
  unfold sq
  split <;> omega

/-- The path and the copath of a node in a tree of 2^K leaves. -/
def pathN (K j q : Nat) : List Nat := (List.range (K - j)).map fun i => nd (j + 1 + i) (q / 2 ^ (i + 1))
def copathN (K j q : Nat) : List Nat := (List.range (K - j)).map fun i => nd (j + i) (sq (q / 2 ^ i))
theorem pathN_length (K j q : Nat) : (pathN K j q).length = K - j := by simp [pathN]
theorem copathN_length (K j q : Nat) : (copathN K j q).length = K - j := by simp [copathN]
theorem pathN_get (K j q i : Nat) (h : i < K - j) : (pathN K j q)[i]? = some (nd (j + 1 + i) (q / 2 ^ (i + 1))) := by
  unfold pathN
  rw [List.getElem?_map, List.getElem?_range h]
  rfl
theorem copathN_get (K j q i : Nat) (h : i < K - j) : (copathN K j q)[i]? = some (nd (j + i) (sq (q / 2 ^ i))) := by
  unfold copathN
  rw [List.getElem?_map, List.getElem?_range h]
  rfl
theorem pathN_take (K j q i : Nat) (h : i < K - j) : (pathN K j q).take (i + 1) = (pathN K j q).take i ++ [nd (j + 1 + i) (q / 2 ^ (i + 1))] := by
  have hi : i < (pathN K j q).length := by rw [pathN_length]; exact h
  have e := pathN_get K j q i h
  rw [List.getElem?_eq_getElem hi] at e
  rw [List.take_succ_eq_append_getElem hi, Option.some.inj e]
theorem copathN_take (K j q i : Nat) (h : i < K - j) : (copathN K j q).take (i + 1) = (copathN K j q).take i ++ [nd (j + i) (sq (q / 2 ^ i))] := by
  have hi : i < (copathN K j q).length := by rw [copathN_length]; exact h
  have e := copathN_get K j q i h
  rw [List.getElem?_eq_getElem hi] at e
  rw [List.take_succ_eq_append_getElem hi, Option.some.inj e]
theorem quot_lt {K j q i : Nat} (hq : q < 2 ^ (K - j)) (hi : i ≤ K - j) : q / 2 ^ i < 2 ^ (K - (j + i)) := by
  rw [Nat.div_lt_iff_lt_mul (by have := p2_pos i; omega), ← Nat.pow_add]
  have e : K - (j + i) + i = K - j := by omega
  rw [e]
  exact hq
theorem quot_succ (q i : Nat) : q / 2 ^ (i + 1) = q / 2 ^ i / 2 := by rw [Nat.pow_succ, Nat.div_div_eq_div_mul]
/-- In a tree of twice as many leaves. -/
theorem pathN_twice (K j q : Nat) (hj : j ≤ K) (hq : q < 2 ^ (K - j)) : pathN (K + 1) j q = pathN K j q ++ [2 ^ (K + 1) - 1] := by
  unfold pathN
  rw [show K + 1 - j = (K - j) + 1 by omega, List.range_succ, List.map_append]
  congr 1
  have e : q / 2 ^ (K - j + 1) = 0 := Nat.div_eq_of_lt (by rw [p2_succ]; omega)
  simp only [List.map_cons, List.map_nil]
  rw [e, show j + 1 + (K - j) = K + 1 by omega, nd_root]
theorem copathN_twice (K j q : Nat) (hj : j ≤ K) (hq : q < 2 ^ (K - j)) : copathN (K + 1) j q = copathN K j q ++ [3 * 2 ^ K - 1] := by
  unfold copathN
  rw [show K + 1 - j = (K - j) + 1 by omega, List.range_succ, List.map_append]
  congr 1
  have e : q / 2 ^ (K - j) = 0 := Nat.div_eq_of_lt hq
  simp only [List.map_cons, List.map_nil]
  rw [e, show j + (K - j) = K by omega]
  have := p2_pos K
  have := p2_succ K
  simp [nd, sq]
  omega
/-- The node over two leaves: the lowest level at which they are in one place. -/
def meetF : Nat → Nat → Nat → Nat → Nat
  | 0, j, _, _ => j
  | f + 1, j, a, b => if a / 2 ^ j = b / 2 ^ j then j else meetF f (j + 1) a b
def meet (a b : Nat) : Nat := meetF 10 0 a b
theorem meetF_spec : ∀ (f j a b : Nat), a / 2 ^ (j + f) = b / 2 ^ (j + f) → (∀ i, i < j → a / 2 ^ i ≠ b / 2 ^ i) →
    j ≤ meetF f j a b ∧ meetF f j a b ≤ j + f ∧ a / 2 ^ (meetF f j a b) = b / 2 ^ (meetF f j a b) ∧ ∀ i, i < meetF f j a b → a / 2 ^ i ≠ b / 2 ^ i
  | 0, j, a, b, h, hi => ⟨Nat.le_refl _, Nat.le_refl _, h, hi⟩
  | f + 1, j, a, b, h, hi => by
    unfold meetF
    by_cases e : a / 2 ^ j = b / 2 ^ j
    · rw [if_pos e]
      exact ⟨Nat.le_refl _, by omega, e, hi⟩
    · rw [if_neg e]
      have h2 := meetF_spec f (j + 1) a b (by rw [show j + 1 + f = j + (f + 1) by omega]; exact h) (fun i hij => by
        rcases Nat.lt_or_eq_of_le (Nat.lt_succ_iff.1 hij) with h3 | h3
        · exact hi i h3
        · rw [h3]; exact e)
      exact ⟨by omega, by omega, h2.2.2.1, h2.2.2.2⟩
theorem meet_spec {a b K : Nat} (hK : K ≤ 10) (ha : a < 2 ^ K) (hb : b < 2 ^ K) : meet a b ≤ K ∧ a / 2 ^ (meet a b) = b / 2 ^ (meet a b) ∧ ∀ i, i < meet a b → a / 2 ^ i ≠ b / 2 ^ i := by
  have hp : (2 : Nat) ^ K ≤ 2 ^ 10 := Nat.pow_le_pow_right (by omega) hK
  obtain ⟨_, _, h3, h4⟩ := meetF_spec 10 0 a b (by rw [Nat.zero_add, Nat.div_eq_of_lt (by omega), Nat.div_eq_of_lt (by omega)]) (fun i h => by omega)
  refine ⟨?_, h3, h4⟩
  refine Nat.le_of_not_lt fun h => h4 K h ?_
  rw [Nat.div_eq_of_lt ha, Nat.div_eq_of_lt hb]
theorem meet_comm {a b K : Nat} (hK : K ≤ 10) (ha : a < 2 ^ K) (hb : b < 2 ^ K) : meet a b = meet b a := by
  obtain ⟨_, h2, h3⟩ := meet_spec hK ha hb
  obtain ⟨_, g2, g3⟩ := meet_spec hK hb ha
  refine Nat.le_antisymm ?_ ?_
  · exact Nat.le_of_not_lt fun h => h3 _ h g2.symm
  · exact Nat.le_of_not_lt fun h => g3 _ h h2.symm
end Go.Proofs.YtcomgbneacbncaaDoor
