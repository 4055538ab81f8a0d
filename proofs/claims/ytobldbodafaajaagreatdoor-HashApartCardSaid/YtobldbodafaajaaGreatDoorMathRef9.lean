/- Where nodes stand in a tree: the node of level j that is the q-th there, its level, children, parent, sibling, leaves, path. Plain. -/
import Derived.Test.YtobldbodafaajaaGreatDoorBase2
import Derived.Lib.TrailingZeros
import Derived.Laws.Bits64b
import Derived.WalkKit
import Derived.Test.YtobldbodafaajaaGreatDoorRows
import Derived.WalkSpells
import Derived.Lib.Hide
import Derived.Outline
import Derived.Lib.SmallJoins
import Derived.Test.YtobldbodafaajaaGreatDoorVal9
set_option linter.unusedVariables false
set_option linter.unusedSimpArgs false
namespace Go.Proofs.YtobldbodafaajaaGreatDoor
open Go.RowKit

/-- The q-th node of level j. -/
def nd (j q : Nat) : Nat := 2 ^ (j + 1) * q + 2 ^ j - 1
theorem p2_pos (k : Nat) : 1 ≤ 2 ^ k := Nat.one_le_two_pow
theorem p2_succ (k : Nat) : 2 ^ (k + 1) = 2 * 2 ^ k := by rw [Nat.pow_succ]; omega
theorem nd_leaf (q : Nat) : nd 0 q = 2 * q := by unfold nd; simp
theorem nd_succ (j q : Nat) : nd (j + 1) q = 2 * nd j q + 1 := by
  unfold nd
  rw [p2_succ (j + 1), p2_succ j, Nat.mul_assoc]
  have := p2_pos j
  omega
theorem nd_half (j q : Nat) : nd (j + 1) q / 2 = nd j q := by rw [nd_succ]; omega
theorem nd_odd (j q : Nat) : nd (j + 1) q % 2 = 1 := by rw [nd_succ]; omega
theorem nd_even (q : Nat) : nd 0 q % 2 = 0 := by rw [nd_leaf]; omega
theorem nd_left (j q : Nat) : nd (j + 1) q - 2 ^ j = nd j (2 * q) ∧ 2 ^ j ≤ nd (j + 1) q := by
  unfold nd
  rw [p2_succ (j + 1), p2_succ j]
  have := p2_pos j
  have e : 2 * (2 * 2 ^ j) * q = 2 * 2 ^ j * (2 * q) := by rw [Nat.mul_comm 2 (2 * 2 ^ j), Nat.mul_assoc]
  rw [e]
  omega
theorem nd_right (j q : Nat) : nd (j + 1) q + 2 ^ j = nd j (2 * q + 1) := by
  unfold nd
  rw [p2_succ (j + 1), p2_succ j, Nat.mul_add]
  have := p2_pos j
  have e : 2 * (2 * 2 ^ j) * q = 2 * 2 ^ j * (2 * q) := by rw [Nat.mul_comm 2 (2 * 2 ^ j), Nat.mul_assoc]
  rw [e]
  omega
theorem nd_inj {j q i r : Nat} (h : nd j q = nd i r) : j = i ∧ q = r := by
  induction j generalizing i with
  | zero =>
    cases i with
    | zero => rw [nd_leaf, nd_leaf] at h; exact ⟨rfl, by omega⟩
    | succ i => have h1 := nd_even q; have h2 := nd_odd i r; omega
  | succ j ih =>
    cases i with
    | zero => have h1 := nd_even r; have h2 := nd_odd j q; omega
    | succ i =>
      rw [nd_succ, nd_succ] at h
      obtain ⟨h1, h2⟩ := ih (i := i) (by omega)
      exact ⟨by omega, h2⟩
theorem nd_of : ∀ (K x : Nat), x < 2 ^ (K + 1) - 1 → ∃ j q, x = nd j q ∧ j ≤ K ∧ q < 2 ^ (K - j)
  | 0, x, h => ⟨0, 0, by simp at h; rw [nd_leaf]; omega, Nat.le_refl _, by simp⟩
  | K + 1, x, h => by
    by_cases hx : x % 2 = 0
    · refine ⟨0, x / 2, by rw [nd_leaf]; omega, by omega, ?_⟩
      rw [p2_succ] at h
      rw [Nat.sub_zero]
      omega
    · obtain ⟨j, q, e, hj, hq⟩ := nd_of K (x / 2) (by rw [p2_succ] at h; omega)
      refine ⟨j + 1, q, by rw [nd_succ, ← e]; omega, by omega, ?_⟩
      rw [Nat.add_sub_add_right]
      exact hq
theorem nd_lt {j q K : Nat} (hj : j ≤ K) (hq : q < 2 ^ (K - j)) : nd j q < 2 ^ (K + 1) - 1 := by
  have e : 2 ^ (K + 1) = 2 ^ (j + 1) * 2 ^ (K - j) := by rw [← Nat.pow_add]; congr 1; omega
  have h1 : 2 ^ (j + 1) * (q + 1) ≤ 2 ^ (K + 1) := by rw [e]; exact Nat.mul_le_mul_left _ hq
  rw [Nat.mul_add, Nat.mul_one] at h1
  unfold nd
  have := p2_pos j
  have := p2_succ j
  omega
theorem nd_in {j q K : Nat} (h : nd j q < 2 ^ (K + 1) - 1) : j ≤ K ∧ q < 2 ^ (K - j) := by
  obtain ⟨i, r, e, hi, hr⟩ := nd_of K _ h
  obtain ⟨rfl, rfl⟩ := nd_inj e
  exact ⟨hi, hr⟩
/-- The root. -/
theorem nd_root (K : Nat) : nd K 0 = 2 ^ K - 1 := by unfold nd; simp
theorem nd_is_root {j q K : Nat} (hq : q < 2 ^ (K - j)) (hj : j ≤ K) : nd j q = 2 ^ K - 1 ↔ j = K := by
  constructor
  · intro h
    rw [← nd_root] at h
    exact (nd_inj h).1
  · rintro rfl
    simp at hq
    subst hq
    exact nd_root j

/-- The level. -/
def levF : Nat → Nat → Nat
  | 0, _ => 0
  | f + 1, x => if x % 2 = 1 then levF f (x / 2) + 1 else 0
def lev (x : Nat) : Nat := levF 12 x
theorem levF_nd : ∀ (f j q : Nat), j < f → levF f (nd j q) = j
  | 0, j, q, h => by omega
  | f + 1, 0, q, h => by unfold levF; rw [if_neg (by have := nd_even q; omega)]
  | f + 1, j + 1, q, h => by unfold levF; rw [if_pos (nd_odd j q), nd_half, levF_nd f j q (by omega)]
theorem lev_nd (j q : Nat) (h : j ≤ 11) : lev (nd j q) = j := levF_nd 12 j q (by omega)

/-- The first and the last leaf. -/
theorem nd_leaves (j q : Nat) : (nd j q - (2 ^ j - 1)) / 2 = 2 ^ j * q ∧ (nd j q + (2 ^ j - 1)) / 2 = 2 ^ j * q + 2 ^ j - 1 := by
  unfold nd
  rw [p2_succ j, Nat.mul_assoc]
  have := p2_pos j
  constructor <;> omega
theorem under_iff (j q b : Nat) : 2 ^ j * q ≤ b ∧ b ≤ 2 ^ j * q + 2 ^ j - 1 ↔ b / 2 ^ j = q := by
  have hp := p2_pos j
  constructor
  · rintro ⟨h1, h2⟩
    refine Nat.le_antisymm ?_ ?_
    · exact Nat.lt_succ_iff.1 ((Nat.div_lt_iff_lt_mul (by omega)).2 (by rw [Nat.succ_mul, Nat.mul_comm]; omega))
    · exact (Nat.le_div_iff_mul_le (by omega)).2 (by rw [Nat.mul_comm]; exact h1)
  · rintro rfl
    have h1 := Nat.div_add_mod b (2 ^ j)
    have h2 := Nat.mod_lt b (show 0 < 2 ^ j by omega)
    omega
/-- The other child's place. -/
def sq (q : Nat) : Nat := if q % 2 = 0 then q + 1 else q - 1
theorem sq_even (r : Nat) : sq (2 * r) = 2 * r + 1 := by unfold sq; rw [if_pos (by omega)]
theorem sq_odd (r : Nat) : sq (2 * r + 1) = 2 * r := by unfold sq; rw [if_neg (by omega)]; omega
theorem sq_half (q : Nat) : sq q / 2 = q / 2 := by unfold sq; split <;> omega
theorem sq_lt {q n : Nat} (h : q < 2 ^ (n + 1)) : sq q < 2 ^ (n + 1) := by
  have := p2_succ n
  unfold sq
  split <;> omega

/-- The path and the copath of a node in a tree of 2^K leaves. -/
def pathN (K j q : Nat) : List Nat := (List.range (K - j)).map fun i => nd (j + 1 + i) (q / 2 ^ (i + 1))
def copathN (K j q : Nat) : List Nat := (List.range (K - j)).map fun i => nd (j + i) (sq (q / 2 ^ i))
theorem pathN_length (K j q : Nat) : (pathN K j q).length = K - j := by simp [pathN]
theorem copathN_length (K j q : Nat) : (copathN K j q).length = K - j := by simp [copathN]
theorem pathN_get (K j q i : Nat) (h : i < K - j) : (pathN K j q)[i]? = some (nd (j + 1 + i) (q / 2 ^ (i + 1))) := by
  unfold pathN
  rw [List.getElem?_map, List.getElem?_range h]
  rfl
theorem copathN_get (K j q i : Nat) (h : i < K - j) : (copathN K j q)[i]? = some (nd (j + i) (sq (q / 2 ^ i))) := by
  unfold copathN
  rw [List.getElem?_map, List.getElem?_range h]
  rfl
theorem pathN_take (K j q i : Nat) (h : i < K - j) : (pathN K j q).take (i + 1) = (pathN K j q).take i ++ [nd (j + 1 + i) (q / 2 ^ (i + 1))] := by
  have hi : i < (pathN K j q).length := by rw [pathN_length]; exact h
  have e := pathN_get K j q i h
  rw [List.getElem?_eq_getElem hi] at e
  rw [List.take_succ_eq_append_getElem hi, Option.some.inj e]
theorem copathN_take (K j q i : Nat) (h : i < K - j) : (copathN K j q).take (i + 1) = (copathN K j q).take i ++ [nd (j + i) (sq (q / 2 ^ i))] := by
  have hi : i < (copathN K j q).length := by rw [copathN_length]; exact h
  have e := copathN_get K j q i h
  rw [List.getElem?_eq_getElem hi] at e
  rw [List.take_succ_eq_append_getElem hi, Option.some.inj e]
theorem quot_lt {K j q i : Nat} (hq : q < 2 ^ (K - j)) (hi : i ≤ K - j) : q / 2 ^ i < 2 ^ (K - (j + i)) := by
  rw [Nat.div_lt_iff_lt_mul (by have := p2_pos i; omega), ← Nat.pow_add]
  have e : K - (j + i) + i = K - j := by omega
  rw [e]
  exact hq
theorem quot_succ (q i : Nat) : q / 2 ^ (i + 1) = q / 2 ^ i / 2 := by rw [Nat.pow_succ, Nat.div_div_eq_div_mul]
/-- In a tree of twice as many leaves. -/
theorem pathN_twice (K j q : Nat) (hj : j ≤ K) (hq : q < 2 ^ (K - j)) : pathN (K + 1) j q = pathN K j q ++ [2 ^ (K + 1) - 1] := by
  unfold pathN
  rw [show K + 1 - j = (K - j) + 1 by omega, List.range_succ, List.map_append]
  congr 1
  have e : q / 2 ^ (K - j + 1) = 0 := Nat.div_eq_of_lt (by rw [p2_succ]; omega)
  simp only [List.map_cons, List.map_nil]
  rw [e, show j + 1 + (K - j) = K + 1 by omega, nd_root]
theorem copathN_twice (K j q : Nat) (hj : j ≤ K) (hq : q < 2 ^ (K - j)) : copathN (K + 1) j q = copathN K j q ++ [3 * 2 ^ K - 1] := by
  unfold copathN
  rw [show K + 1 - j = (K - j) + 1 by omega, List.range_succ, List.map_append]
  congr 1
  have e : q / 2 ^ (K - j) = 0 := Nat.div_eq_of_lt hq
  simp only [List.map_cons, List.map_nil]
  rw [e, show j + (K - j) = K by omega]
  have := p2_pos K
  have := p2_succ K
  simp [nd, sq]
  omega
/-- The node over two leaves: the lowest level at which they are in one place. -/
def meetF : Nat → Nat → Nat → Nat → Nat
  | 0, j, _, _ => j
  | f + 1, j, a, b => if a / 2 ^ j = b / 2 ^ j then j else meetF f (j + 1) a b
def meet (a b : Nat) : Nat := meetF 10 0 a b
theorem meetF_spec : ∀ (f j a b : Nat), a / 2 ^ (j + f) = b / 2 ^ (j + f) → (∀ i, i < j → a / 2 ^ i ≠ b / 2 ^ i) →
    j ≤ meetF f j a b ∧ meetF f j a b ≤ j + f ∧ a / 2 ^ (meetF f j a b) = b / 2 ^ (meetF f j a b) ∧ ∀ i, i < meetF f j a b → a / 2 ^ i ≠ b / 2 ^ i
  | 0, j, a, b, h, hi => ⟨Nat.le_refl _, Nat.le_refl _, h, hi⟩
  | f + 1, j, a, b, h, hi => by
    unfold meetF
    by_cases e : a / 2 ^ j = b / 2 ^ j
    · rw [if_pos e]
      exact ⟨Nat.le_refl _, by omega, e, hi⟩
    · rw [if_neg e]
      have h2 := meetF_spec f (j + 1) a b (by rw [show j + 1 + f = j + (f + 1) by omega]; exact h) (fun i hij => by
        rcases Nat.lt_or_eq_of_le (Nat.lt_succ_iff.1 hij) with h3 | h3
        · exact hi i h3
        · rw [h3]; exact e)
      exact ⟨by omega, by omega, h2.2.2.1, h2.2.2.2⟩
theorem meet_spec {a b K : Nat} (hK : K ≤ 10) (ha : a < 2 ^ K) (hb : b < 2 ^ K) : meet a b ≤ K ∧ a / 2 ^ (meet a b) = b / 2 ^ (meet a b) ∧ ∀ i, i < meet a b → a / 2 ^ i ≠ b / 2 ^ i := by
  have hp : (2 : Nat) ^ K ≤ 2 ^ 10 := Nat.pow_le_pow_right (by omega) hK
  obtain ⟨_, _, h3, h4⟩ := meetF_spec 10 0 a b (by rw [Nat.zero_add, Nat.div_eq_of_lt (by omega), Nat.div_eq_of_lt (by omega)]) (fun i h => by omega)
  refine ⟨?_, h3, h4⟩
  refine Nat.le_of_not_lt fun h => h4 K h ?_
  rw [Nat.div_eq_of_lt ha, Nat.div_eq_of_lt hb]
theorem meet_comm {a b K : Nat} (hK : K ≤ 10) (ha : a < 2 ^ K) (hb : b < 2 ^ K) : meet a b = meet b a := by
  obtain ⟨_, h2, h3⟩ := meet_spec hK ha hb
  obtain ⟨_, g2, g3⟩ := meet_spec hK hb ha
  refine Nat.le_antisymm ?_ ?_
  · exact Nat.le_of_not_lt fun h => h3 _ h g2.symm
  · exact Nat.le_of_not_lt fun h => g3 _ h h2.symm
end Go.Proofs.YtobldbodafaajaaGreatDoor

/- What the document says of layer 8's calls, as plain functions of integers. -/
set_option linter.unusedVariables false
set_option linter.unusedSimpArgs false
namespace Go.Proofs.YtobldbodafaajaaGreatDoor
open Go.RowKit

/-- Are there trees of n leaves? -/
def isTB (n : Int) : Bool := (List.range 11).any fun k => decide (n = ((2 ^ k : Nat) : Int))
theorem isTB_yes (K : Nat) (h : K ≤ 10) : isTB ((2 ^ K : Nat) : Int) = true := by
  unfold isTB
  rw [List.any_eq_true]
  exact ⟨K, by simp; omega, by simp⟩
theorem isTB_iff (n : Int) : isTB n = true ↔ ∃ K, K ≤ 10 ∧ n = ((2 ^ K : Nat) : Int) := by
  constructor
  · intro h
    unfold isTB at h
    rw [List.any_eq_true] at h
    obtain ⟨K, h1, h2⟩ := h
    exact ⟨K, by simp at h1; omega, of_decide_eq_true h2⟩
  · rintro ⟨K, h, rfl⟩
    exact isTB_yes K h
theorem isTB_bounds {n : Int} (h : isTB n = true) : 1 ≤ n ∧ n ≤ 1024 := by
  obtain ⟨K, hK, rfl⟩ := (isTB_iff n).1 h
  have h1 : (2 : Nat) ^ K ≤ 2 ^ 10 := Nat.pow_le_pow_right (by omega) hK
  have h2 := p2_pos K
  generalize 2 ^ K = M at *
  omega
def inB (x n : Int) : Bool := isTB n && (decide (0 ≤ x) && decide (x < 2 * n - 1))
/-- A node of a tree: its level and its place. -/
theorem inB_iff (x n : Int) : inB x n = true ↔ ∃ K j q, K ≤ 10 ∧ n = ((2 ^ K : Nat) : Int) ∧ x = ((nd j q : Nat) : Int) ∧ j ≤ K ∧ q < 2 ^ (K - j) := by
  unfold inB
  simp only [Bool.and_eq_true, decide_eq_true_eq]
  constructor
  · rintro ⟨h1, h2, h3⟩
    obtain ⟨K, hK, rfl⟩ := (isTB_iff n).1 h1
    obtain ⟨y, rfl⟩ := Int.eq_ofNat_of_zero_le h2
    obtain ⟨j, q, e, hj, hq⟩ := nd_of K y (by rw [p2_succ]; omega)
    exact ⟨K, j, q, hK, rfl, by rw [e], hj, hq⟩
  · rintro ⟨K, j, q, hK, rfl, rfl, hj, hq⟩
    have h := nd_lt hj hq
    rw [p2_succ] at h
    exact ⟨isTB_yes K hK, by omega, by omega⟩
theorem small_iff (x : Int) : (0 ≤ x ∧ x ≤ 2046) ↔ ∃ j q, x = ((nd j q : Nat) : Int) ∧ j ≤ 10 ∧ q < 2 ^ (10 - j) := by
  constructor
  · rintro ⟨h1, h2⟩
    obtain ⟨y, rfl⟩ := Int.eq_ofNat_of_zero_le h1
    obtain ⟨j, q, e, hj, hq⟩ := nd_of 10 y (by omega)
    exact ⟨j, q, by rw [e], hj, hq⟩
  · rintro ⟨j, q, rfl, hj, hq⟩
    have h := nd_lt hj hq
    omega
theorem p2_le {K : Nat} (h : K ≤ 10) : 2 ^ K ≤ 1024 := by
  have : (2 : Nat) ^ K ≤ 2 ^ 10 := Nat.pow_le_pow_right (by omega) h
  omega
theorem nd_small {K j q : Nat} (hK : K ≤ 10) (hj : j ≤ K) (hq : q < 2 ^ (K - j)) : nd j q ≤ 2046 ∧ j ≤ 10 ∧ q < 2 ^ (10 - j) := by
  have h := nd_lt hj hq
  have h2 := p2_le hK
  rw [p2_succ] at h
  refine ⟨by omega, by omega, Nat.lt_of_lt_of_le hq (Nat.pow_le_pow_right (by omega) (by omega))⟩

/-- A node's place on its level. -/
def qOf (x : Nat) : Nat := x / 2 ^ (lev x + 1)
theorem qOf_nd (j q : Nat) (h : j ≤ 11) : qOf (nd j q) = q := by
  unfold qOf
  rw [lev_nd j q h]
  unfold nd
  have h1 := p2_pos j
  have h2 := p2_succ j
  have e : 2 ^ (j + 1) * q + 2 ^ j - 1 = (2 ^ j - 1) + 2 ^ (j + 1) * q := by omega
  rw [e, Nat.add_mul_div_left _ _ (by omega), Nat.div_eq_of_lt (by omega), Nat.zero_add]
/-- The number of levels. -/
def lgN (n : Int) : Nat := n.toNat.log2
theorem lgN_pow : ∀ K, K ≤ 10 → lgN ((2 ^ K : Nat) : Int) = K := by
  intro K h
  unfold lgN
  rw [Int.toNat_natCast]
  have : ∀ K : Fin 11, (2 ^ K.1).log2 = K.1 := by decide
  exact this ⟨K, by omega⟩

def widE (n : Int) : Int := if isTB n then 0 else 1
def widV (n : Int) : Int := if isTB n then 2 * n - 1 else 0
def okN (x : Int) : Prop := 0 ≤ x ∧ x ≤ 2046
instance (x : Int) : Decidable (okN x) := by unfold okN; infer_instance
def levV (x : Int) : Int := if okN x then (lev x.toNat : Int) else 0
def chE (x : Int) : Int := if levV x = 0 then 1 else 0
def lefV (x : Int) : Int := if levV x = 0 then 0 else x - ((2 ^ ((levV x).toNat - 1) : Nat) : Int)
def rigV (x : Int) : Int := if levV x = 0 then 0 else x + ((2 ^ ((levV x).toNat - 1) : Nat) : Int)
theorem levV_nd {j q : Nat} (hj : j ≤ 10) (hq : q < 2 ^ (10 - j)) : levV ((nd j q : Nat) : Int) = (j : Int) := by
  unfold levV
  rw [if_pos (show okN ((nd j q : Nat) : Int) from (small_iff _).2 ⟨j, q, rfl, hj, hq⟩), Int.toNat_natCast, lev_nd j q (by omega)]
theorem levV_no {x : Int} (h : ¬ okN x) : levV x = 0 := if_neg h
theorem ch_leaf {q : Nat} (hq : q < 2 ^ 10) : chE ((nd 0 q : Nat) : Int) = 1 ∧ lefV ((nd 0 q : Nat) : Int) = 0 ∧ rigV ((nd 0 q : Nat) : Int) = 0 := by
  have e : levV ((nd 0 q : Nat) : Int) = 0 := levV_nd (by omega) hq
  unfold chE lefV rigV
  rw [e]
  exact ⟨rfl, rfl, rfl⟩
theorem ch_no {x : Int} (h : ¬ okN x) : chE x = 1 ∧ lefV x = 0 ∧ rigV x = 0 := by
  unfold chE lefV rigV
  rw [levV_no h]
  exact ⟨rfl, rfl, rfl⟩
theorem ch_yes {j q : Nat} (hj : j + 1 ≤ 10) (hq : q < 2 ^ (10 - (j + 1))) : chE ((nd (j + 1) q : Nat) : Int) = 0 ∧ lefV ((nd (j + 1) q : Nat) : Int) = ((nd j (2 * q) : Nat) : Int) ∧ rigV ((nd (j + 1) q : Nat) : Int) = ((nd j (2 * q + 1) : Nat) : Int) := by
  have e := levV_nd hj hq
  have e0 : ¬ (((j + 1 : Nat) : Int) = 0) := by omega
  unfold chE lefV rigV
  rw [e, if_neg e0, if_neg e0, if_neg e0, Int.toNat_natCast, Nat.add_sub_cancel]
  obtain ⟨h1, h2⟩ := nd_left j q
  have h3 := nd_right j q
  exact ⟨rfl, by omega, by omega⟩

def parN (x : Nat) : Nat := nd (lev x + 1) (qOf x / 2)
def sibN (x : Nat) : Nat := nd (lev x) (sq (qOf x))
def paE (x n : Int) : Int := if inB x n then (if x = n - 1 then 11 else 0) else 1
def paV (x n : Int) : Int := if paE x n = 0 then (parN x.toNat : Int) else 0
def siV (x n : Int) : Int := if paE x n = 0 then (sibN x.toNat : Int) else 0
def arE (x n : Int) : Int := if inB x n then 0 else 1
def pathV (x n : Int) : List Nat := if inB x n then pathN (lgN n) (lev x.toNat) (qOf x.toNat) else []
def copaV (x n : Int) : List Nat := if inB x n then copathN (lgN n) (lev x.toNat) (qOf x.toNat) else []
theorem pa_no {x n : Int} (h : ¬ inB x n = true) : paE x n = 1 ∧ paV x n = 0 ∧ siV x n = 0 := by
  have e : paE x n = 1 := if_neg h
  unfold paV siV
  rw [e]
  exact ⟨rfl, rfl, rfl⟩
theorem pa_root {K : Nat} (hK : K ≤ 10) : paE ((nd K 0 : Nat) : Int) ((2 ^ K : Nat) : Int) = 11 ∧ paV ((nd K 0 : Nat) : Int) ((2 ^ K : Nat) : Int) = 0 ∧ siV ((nd K 0 : Nat) : Int) ((2 ^ K : Nat) : Int) = 0 := by
  have h1 := nd_root K
  have h2 := p2_pos K
  have e : paE ((nd K 0 : Nat) : Int) ((2 ^ K : Nat) : Int) = 11 := by
    unfold paE
    rw [if_pos ((inB_iff _ _).2 ⟨K, K, 0, hK, rfl, rfl, Nat.le_refl _, by simp⟩), if_pos (by omega)]
  unfold paV siV
  rw [e]
  exact ⟨rfl, rfl, rfl⟩
theorem pa_yes {K j q : Nat} (hK : K ≤ 10) (hj : j < K) (hq : q < 2 ^ (K - j)) :
    paE ((nd j q : Nat) : Int) ((2 ^ K : Nat) : Int) = 0 ∧ paV ((nd j q : Nat) : Int) ((2 ^ K : Nat) : Int) = ((nd (j + 1) (q / 2) : Nat) : Int) ∧ siV ((nd j q : Nat) : Int) ((2 ^ K : Nat) : Int) = ((nd j (sq q) : Nat) : Int) := by
  have h2 := p2_pos K
  have h3 := nd_is_root hq (by omega)
  have e : paE ((nd j q : Nat) : Int) ((2 ^ K : Nat) : Int) = 0 := by
    unfold paE
    rw [if_pos ((inB_iff _ _).2 ⟨K, j, q, hK, rfl, rfl, by omega, hq⟩), if_neg]
    intro h
    have := h3.1 (by omega)
    omega
  unfold paV siV parN sibN
  rw [e, if_pos rfl, if_pos rfl, Int.toNat_natCast, lev_nd j q (by omega), qOf_nd j q (by omega)]
  exact ⟨rfl, rfl, rfl⟩
theorem ar_no {x n : Int} (h : ¬ inB x n = true) : arE x n = 1 ∧ pathV x n = [] ∧ copaV x n = [] := ⟨if_neg h, if_neg h, if_neg h⟩
theorem ar_yes {K j q : Nat} (hK : K ≤ 10) (hj : j ≤ K) (hq : q < 2 ^ (K - j)) :
    arE ((nd j q : Nat) : Int) ((2 ^ K : Nat) : Int) = 0 ∧ pathV ((nd j q : Nat) : Int) ((2 ^ K : Nat) : Int) = pathN K j q ∧ copaV ((nd j q : Nat) : Int) ((2 ^ K : Nat) : Int) = copathN K j q := by
  have h := (inB_iff _ _).2 ⟨K, j, q, hK, rfl, rfl, hj, hq⟩
  unfold arE pathV copaV
  rw [if_pos h, if_pos h, if_pos h, Int.toNat_natCast, lev_nd j q (by omega), qOf_nd j q (by omega), lgN_pow K hK]
  exact ⟨rfl, rfl, rfl⟩
/-- The node over two leaves. -/
def okC (a b n : Int) : Prop := isTB n = true ∧ 0 ≤ a ∧ 0 ≤ b ∧ a < n ∧ b < n
instance (a b n : Int) : Decidable (okC a b n) := by unfold okC; infer_instance
def coE (a b n : Int) : Int := if okC a b n then 0 else 1
def coN (a b : Nat) : Nat := nd (meet a b) (a / 2 ^ meet a b)
def coV (a b n : Int) : Int := if okC a b n then (coN a.toNat b.toNat : Int) else 0
/-- The first and the last leaf below a node. -/
def loV (x : Int) : Int := if okN x then ((2 ^ lev x.toNat * qOf x.toNat : Nat) : Int) else 0
def hiV (x : Int) : Int := if okN x then ((2 ^ lev x.toNat * qOf x.toNat + 2 ^ lev x.toNat - 1 : Nat) : Int) else -1
theorem lv_no {x : Int} (h : ¬ okN x) : loV x = 0 ∧ hiV x = -1 := ⟨if_neg h, if_neg h⟩
theorem lv_nd {j q : Nat} (hj : j ≤ 10) (hq : q < 2 ^ (10 - j)) : loV ((nd j q : Nat) : Int) = ((2 ^ j * q : Nat) : Int) ∧ hiV ((nd j q : Nat) : Int) = ((2 ^ j * q + 2 ^ j - 1 : Nat) : Int) := by
  have h : okN ((nd j q : Nat) : Int) := (small_iff _).2 ⟨j, q, rfl, hj, hq⟩
  unfold loV hiV
  rw [if_pos h, if_pos h, Int.toNat_natCast, lev_nd j q (by omega), qOf_nd j q (by omega)]
  exact ⟨rfl, rfl⟩
end Go.Proofs.YtobldbodafaajaaGreatDoor

/- Plain: the lowest bits of a node's number; the sizes that a tree may have, told by bits. -/
set_option linter.unusedVariables false
set_option linter.unusedSimpArgs false
namespace Go.Proofs.YtobldbodafaajaaGreatDoor
open Go.RowKit

theorem bits_and_i64_nat8 (a b : Nat) (ha : a < 9223372036854775808) (hb : b < 9223372036854775808) : bits .and .i64 (a : Int) (b : Int) = ((a &&& b : Nat) : Int) := by
  have hx : a &&& b < 2 ^ 63 := Nat.and_lt_two_pow _ (by omega)
  have h1 : (BitVec.ofInt 64 (a : Int)).toNat = a := by
    rw [BitVec.ofInt_natCast, BitVec.toNat_ofNat]; exact Nat.mod_eq_of_lt (by omega)
  have h2 : (BitVec.ofInt 64 (b : Int)).toNat = b := by
    rw [BitVec.ofInt_natCast, BitVec.toNat_ofNat]; exact Nat.mod_eq_of_lt (by omega)
  show IntKind.i64.wrap ((BitVec.ofInt 64 (a : Int) &&& BitVec.ofInt 64 (b : Int)).toNat : Int) = _
  rw [BitVec.toNat_and, h1, h2]
  exact IntWalk.i64_in _ (by omega)

theorem ctzFrom8 : ∀ (k m f : Nat), k < f → Lib.ctzFrom f (2 ^ k * (2 * m + 1)) = k
  | 0, m, f, h => by
    obtain ⟨f, rfl⟩ : ∃ g, f = g + 1 := ⟨f - 1, by omega⟩
    unfold Lib.ctzFrom
    rw [if_pos (by simp)]
  | k + 1, m, f, h => by
    obtain ⟨f, rfl⟩ : ∃ g, f = g + 1 := ⟨f - 1, by omega⟩
    have e : 2 ^ (k + 1) * (2 * m + 1) = 2 * (2 ^ k * (2 * m + 1)) := by rw [Nat.pow_succ, Nat.mul_comm (2 ^ k) 2, Nat.mul_assoc]
    unfold Lib.ctzFrom
    rw [e, if_neg (by omega), show 2 * (2 ^ k * (2 * m + 1)) / 2 = 2 ^ k * (2 * m + 1) by omega, ctzFrom8 k m f (by omega)]
    omega
theorem nd_succ8 (j q : Nat) : nd j q + 1 = 2 ^ j * (2 * q + 1) := by
  unfold nd
  have h1 := p2_pos j
  have e : 2 ^ j * (2 * q + 1) = 2 ^ (j + 1) * q + 2 ^ j := by rw [Nat.mul_add, Nat.mul_one, p2_succ, ← Nat.mul_assoc, Nat.mul_comm (2 ^ j) 2]
  rw [e]
  omega
/-- The level, by trailing noughts. -/
theorem ctz_nd (j q : Nat) (hj : j ≤ 10) : Lib.ctz 64 (nd j q + 1) = j := by
  rw [nd_succ8]
  have : 2 ^ j * (2 * q + 1) ≠ 0 := by have := p2_pos j; exact Nat.mul_ne_zero (by omega) (by omega)
  unfold Lib.ctz
  rw [if_neg this]
  exact ctzFrom8 j q 64 (by omega)
/-- The bit that tells a left child from a right one. -/
theorem side_bit (j q : Nat) : nd j q &&& 2 ^ (j + 1) = if q % 2 = 0 then 0 else 2 ^ (j + 1) := by
  have h1 : (nd j q).testBit (j + 1) = decide (q % 2 = 1) := by
    have e : nd j q = (2 ^ j - 1) + 2 ^ (j + 1) * q := by unfold nd; have := p2_pos j; omega
    rw [Nat.testBit_eq_decide_div_mod_eq, e, Nat.add_mul_div_left _ _ (by exact Nat.two_pow_pos _), Nat.div_eq_of_lt (by have := p2_pos j; rw [p2_succ]; omega), Nat.zero_add]
  apply Nat.eq_of_testBit_eq
  intro i
  rw [Nat.testBit_and, Nat.testBit_two_pow]
  by_cases hi : j + 1 = i
  · subst hi
    rw [h1]
    by_cases hq : q % 2 = 0
    · rw [if_pos hq]; simp; omega
    · rw [if_neg hq, Nat.testBit_two_pow]; simp; omega
  · have e : decide (j + 1 = i) = false := decide_eq_false hi
    rw [e, Bool.and_false]
    split
    · simp
    · rw [Nat.testBit_two_pow, e]
theorem up_left (j q : Nat) (h : q % 2 = 0) : nd j q + 2 ^ j = nd (j + 1) (q / 2) := by
  obtain ⟨r, rfl⟩ : ∃ r, q = 2 * r := ⟨q / 2, by omega⟩
  have h1 := nd_left j r
  rw [show 2 * r / 2 = r by omega]
  omega
theorem up_right (j q : Nat) (h : ¬ q % 2 = 0) : nd j q - 2 ^ j = nd (j + 1) (q / 2) ∧ 2 ^ j ≤ nd j q := by
  obtain ⟨r, rfl⟩ : ∃ r, q = 2 * r + 1 := ⟨q / 2, by omega⟩
  have h1 := nd_right j r
  rw [show (2 * r + 1) / 2 = r by omega]
  omega
/-- Of two siblings the one is as far from the parent as the other. -/
theorem sib_sum (j q : Nat) : nd j q + nd j (sq q) = 2 * nd (j + 1) (q / 2) := by
  by_cases h : q % 2 = 0
  · have h1 := up_left j q h
    have h2 := nd_right j (q / 2)
    have e : sq q = 2 * (q / 2) + 1 := by unfold sq; rw [if_pos h]; omega
    rw [e]
    omega
  · obtain ⟨h1, h3⟩ := up_right j q h
    have h2 := nd_left j (q / 2)
    have e : sq q = 2 * (q / 2) := by unfold sq; rw [if_neg h]; omega
    rw [e]
    omega
theorem size_bits : ∀ n : Fin 1025, (decide (1 ≤ n.1) && decide (n.1 &&& (n.1 - 1) = 0)) = (List.range 11).any fun k => decide (n.1 = 2 ^ k) := by decide +kernel
theorem isTB_bits (n : Nat) (h1 : 1 ≤ n) (h2 : n ≤ 1024) : isTB (n : Int) = decide (n &&& (n - 1) = 0) := by
  have h := size_bits ⟨n, by omega⟩
  simp only [h1, decide_true, Bool.true_and] at h
  rw [h]
  unfold isTB
  congr 1
  funext k
  congr 1
  exact propext ⟨fun e => by exact_mod_cast e, fun e => by exact_mod_cast e⟩
theorem isTB_out (n : Int) (h : ¬ (1 ≤ n ∧ n ≤ 1024)) : isTB n = false := by
  rw [Bool.eq_false_iff]
  exact fun e => h (isTB_bounds e)
end Go.Proofs.YtobldbodafaajaaGreatDoor

/- pyxref08: tree, node, Width, Level, half, Left, Right. -/
set_option linter.unusedVariables false
set_option linter.unusedSimpArgs false
namespace Go.Proofs.YtobldbodafaajaaGreatDoor
open Go.RowKit

theorem isTB_no {n : Int} (h : ∀ i, i ≤ 10 → n ≠ ((2 ^ i : Nat) : Int)) : isTB n = false := by
  rw [Bool.eq_false_iff]
  intro h2
  obtain ⟨K, hK, e⟩ := (isTB_iff n).1 h2
  exact h K hK e
set_option maxHeartbeats 1000000 in
theorem refTree_any (n : Int) (w : World) : Calls Tryz.prog 85 #[.int .i64 n] w fun e w' => e = .returned (.bool (isTB n)) ∧ w = w' := by
  have HP : Hid (∀ k, k < 10 → (((2 ^ k : Nat) : Int)) < 1024 ∧ (2 * ((2 ^ k : Nat) : Int)) = ((2 ^ (k + 1) : Nat) : Int)) := fun k hk => by
    have : (2 : Nat) ^ k < 2 ^ 10 := Nat.pow_lt_pow_right (by omega) hk
    have h2 := p2_succ k
    exact ⟨by omega, by omega⟩
  have HY : Hid (∀ k, k ≤ 10 → n = ((2 ^ k : Nat) : Int) → isTB n = true) := fun k hk e => by rw [e]; exact isTB_yes k hk
  have HNO : Hid ((∀ i, i ≤ 10 → n ≠ ((2 ^ i : Nat) : Int)) → isTB n = false) := isTB_no
  generalize isTB n = b at *
  go_enter Tryz.func85, Tryz.ntmps85
  go_wp2_with fail
  go_loop [3] (fun m => ∃ k : Nat, k ≤ 10 ∧ m = .int .i64 ((2 ^ k : Nat) : Int) ∧ ∀ i, i < k → n ≠ ((2 ^ i : Nat) : Int)) (fun m => (1024 - (intOf m).toNat))
  case atStart => exact ⟨0, by omega, rfl, fun i h => by omega⟩
  case round =>
    obtain ⟨k, hk, rfl, hno⟩ := hrel
    by_cases hlt : k < 10
    · obtain ⟨h1, h2⟩ := HP.out k hlt
      have HY2 := HY.out k hk
      have HN : Hid (n ≠ ((2 ^ k : Nat) : Int) → ∀ i, i < k + 1 → n ≠ ((2 ^ i : Nat) : Int)) := fun he i hi => by
        rcases Nat.lt_or_eq_of_le (Nat.lt_succ_iff.1 hi) with h3 | h3
        · exact hno i h3
        · rw [h3]; exact he
      have HM1 : (1 : Int) ≤ ((2 ^ k : Nat) : Int) := by have := p2_pos k; exact_mod_cast this
      generalize ((2 ^ k : Nat) : Int) = m at *
      have hm0 : 0 ≤ m ∨ m < 0 := by omega
      by_cases he : n = m
      · have HB := Lib.hid (HY2 he)
        subst he
        clear HY2 HN HY HNO h2 hno HP
        go_wp2
        go_ret
        exact ⟨by rw [HB.out]; rfl, rfl⟩
      · have hne : ¬ m = n := fun h => he h.symm
        have HN2 := Lib.hid (HN.out he)
        have H2 := Lib.hid h2
        by_cases hp : 0 ≤ m
        · have hw : IntKind.i64.wrap (2 * m) = 2 * m := IntWalk.i64_in _ (by omega)
          have hm1 : 1 ≤ m := HM1
          clear HY2 HN HY HNO h2 hno HP he hm0
          go_wp2
          go_round
          case rel => exact ⟨k + 1, by omega, by rw [← H2.out], HN2.out⟩
          case measure => simp [intOf]; omega
        · exfalso
          have : 0 ≤ ((2 ^ (k + 1) : Nat) : Int) := Int.natCast_nonneg _
          omega
    · obtain rfl : k = 10 := by omega
      have h10 : ((2 ^ 10 : Nat) : Int) = 1024 := rfl
      rw [h10]
      by_cases he : n = 1024
      · have HB := Lib.hid (HY.out 10 (by omega) (by rw [he]; rfl))
        subst he
        clear HY HNO hno HP h10
        go_wp2
        go_ret
        exact ⟨by rw [HB.out]; rfl, rfl⟩
      · have HB := Lib.hid (HNO.out (fun i hi => by
          rcases Nat.lt_or_eq_of_le hi with h3 | h3
          · exact hno i h3
          · rw [h3]; exact he))
        have hne : ¬ (1024 : Int) = n := fun h => he h.symm
        have hne2 : ((1024 : Int) == n) = false := beq_eq_false_iff_ne.2 hne
        clear HY HNO hno HP h10 he
        go_wp2
        go_ret
        exact ⟨by rw [HB.out]; rfl, rfl⟩

set_option maxHeartbeats 1000000 in
theorem refNode_any (x n : Int) (w : World) (hn : -9223372036854775808 ≤ n ∧ n ≤ 9223372036854775807) : Calls Tryz.prog 51 #[.int .i64 x, .int .i64 n] w fun e w' => e = .returned (.bool (inB x n)) ∧ w = w' := by
  have HT := Lib.hid (refTree_any n w)
  by_cases ht : isTB n = true
  · have h1 := isTB_bounds ht
    have h2 : IntKind.i64.wrap (2 * n) = 2 * n := IntWalk.i64_in _ (by omega)
    have h3 : IntKind.i64.wrap (2 * n - 1) = 2 * n - 1 := IntWalk.i64_in _ (by omega)
    have HI : Hid (inB x n = (decide (0 ≤ x) && decide (x < 2 * n - 1))) := by unfold inB; rw [ht]; rfl
    rw [ht] at HT
    rw [HI.out]
    clear ht h1
    by_cases h4 : 0 ≤ x
    · have d1 : (decide (0 ≤ x) && decide (x < 2 * n - 1)) = decide (x < 2 * n - 1) := by simp [h4]
      rw [d1]
      go_enter Tryz.func51, Tryz.ntmps51
      go_wp2_with fail
      refine HT.out.mono ?_; rintro _ _ ⟨rfl, rfl⟩
      go_wp2_with fail
      go_ret
      exact ⟨rfl, rfl⟩
    · have d1 : (decide (0 ≤ x) && decide (x < 2 * n - 1)) = false := by simp; intro h; omega
      rw [d1]
      go_enter Tryz.func51, Tryz.ntmps51
      go_wp2_with fail
      refine HT.out.mono ?_; rintro _ _ ⟨rfl, rfl⟩
      go_wp2_with fail
      go_ret
      exact ⟨rfl, rfl⟩
  · have ht2 : isTB n = false := by rw [Bool.eq_false_iff]; exact ht
    have HI : Hid (inB x n = false) := by unfold Hid inB; rw [ht2]; rfl
    rw [ht2] at HT
    rw [HI.out]
    clear ht ht2
    go_enter Tryz.func51, Tryz.ntmps51
    go_wp2_with fail
    refine HT.out.mono ?_; rintro _ _ ⟨rfl, rfl⟩
    go_wp2_with fail
    go_ret
    exact ⟨rfl, rfl⟩

set_option maxHeartbeats 1000000 in
theorem refWidth_any (n : Int) (w : World) : Calls Tryz.prog 62 #[.int .i64 n] w fun e w' => e = .returned (.tuple #[.int .i64 (widV n), .int .i64 (widE n)]) ∧ w = w' := by
  have HT := Lib.hid (refTree_any n w)
  by_cases ht : isTB n = true
  · have h1 := isTB_bounds ht
    have h2 : IntKind.i64.wrap (2 * n) = 2 * n := IntWalk.i64_in _ (by omega)
    have h3 : IntKind.i64.wrap (2 * n - 1) = 2 * n - 1 := IntWalk.i64_in _ (by omega)
    rw [show widV n = 2 * n - 1 from if_pos ht, show widE n = 0 from if_pos ht]
    rw [ht] at HT
    clear ht h1
    go_enter Tryz.func62, Tryz.ntmps62
    go_wp2_with fail
    refine HT.out.mono ?_; rintro _ _ ⟨rfl, rfl⟩
    go_wp2_with fail
    go_ret2
    exact ⟨rfl, rfl⟩
  · have ht2 : isTB n = false := by rw [Bool.eq_false_iff]; exact ht
    rw [show widV n = 0 from if_neg ht, show widE n = 1 from if_neg ht]
    rw [ht2] at HT
    clear ht ht2
    go_enter Tryz.func62, Tryz.ntmps62
    go_wp2_with fail
    refine HT.out.mono ?_; rintro _ _ ⟨rfl, rfl⟩
    go_wp2_with fail
    go_ret2
    exact ⟨rfl, rfl⟩

theorem tmod2_odd (j q : Nat) : ((nd (j + 1) q : Nat) : Int).tmod 2 = 1 := by
  have := nd_odd j q
  rw [Int.tmod_eq_emod_of_nonneg (by omega)]; omega
theorem tmod2_even (q : Nat) : ((nd 0 q : Nat) : Int).tmod 2 = 0 := by
  have := nd_even q
  rw [Int.tmod_eq_emod_of_nonneg (by omega)]; omega
theorem tdiv2_nd (j q : Nat) : ((nd (j + 1) q : Nat) : Int).tdiv 2 = ((nd j q : Nat) : Int) := by
  have := nd_half j q
  rw [Int.tdiv_eq_ediv_of_nonneg (by omega)]; omega

set_option maxHeartbeats 1000000 in
theorem refLevel_nd (j q : Nat) (w : World) (hj : j ≤ 10) (hq : q < 2 ^ (10 - j)) : Calls Tryz.prog 70 #[.int .i64 ((nd j q : Nat) : Int)] w fun e w' => e = .returned (.int .i64 (j : Int)) ∧ w = w' := by
  obtain ⟨b0, b1⟩ := (small_iff ((nd j q : Nat) : Int)).2 ⟨j, q, rfl, hj, hq⟩
  have HS : Hid (∀ i, i ≤ j → 0 ≤ ((nd i q : Nat) : Int) ∧ ((nd i q : Nat) : Int) ≤ 2046) := fun i hi => (small_iff ((nd i q : Nat) : Int)).2 ⟨i, q, rfl, by omega, Nat.lt_of_lt_of_le hq (Nat.pow_le_pow_right (by omega) (by omega))⟩
  have HO := Lib.hid (fun i => tmod2_odd i q)
  have HE := Lib.hid (tmod2_even q)
  have HD := Lib.hid (fun i => tdiv2_nd i q)
  obtain ⟨f, hf⟩ : ∃ f : Nat → Int, f = fun i => ((nd i q : Nat) : Int) := ⟨_, rfl⟩
  have hfi : ∀ i, ((nd i q : Nat) : Int) = f i := fun i => by rw [hf]
  simp only [hfi] at *
  clear hf hfi
  go_enter Tryz.func70, Tryz.ntmps70
  go_wp2_with fail
  go_loop [3, 4] (fun k y => ∃ i : Nat, i ≤ j ∧ k = .int .i64 ((j - i : Nat) : Int) ∧ y = .int .i64 (f i)) (fun k _ => (j - (intOf k).toNat))
  case atStart => exact ⟨j, Nat.le_refl _, by simp, rfl⟩
  case round =>
    obtain ⟨i, hi, rfl, rfl⟩ := hrel
    cases i with
    | zero =>
      have e1 := HE.out
      clear HS HO HE HD
      rw [Nat.sub_zero]
      go_wp2
      go_ret
      exact ⟨rfl, rfl⟩
    | succ i =>
      have e1 := HO.out i
      have e2 := HD.out i
      have e3 := HS.out i (by omega)
      have e6 : IntKind.i64.wrap (f i) = f i := IntWalk.i64_in _ (by omega)
      obtain ⟨k, hk⟩ : ∃ k : Int, ((j - (i + 1) : Nat) : Int) = k := ⟨_, rfl⟩
      have hk1 : k + 1 = ((j - i : Nat) : Int) := by omega
      have hk2 : 0 ≤ k ∧ k ≤ 10 := by omega
      have e5 : IntKind.i64.wrap (k + 1) = k + 1 := IntWalk.i64_in _ (by omega)
      have HK1 := Lib.hid hk1
      rw [hk]
      clear HS HO HE HD e3 hk hk1
      go_wp2
      go_round
      case rel => exact ⟨i, by omega, by rw [← HK1.out], rfl⟩
      case measure => have := HK1.out; simp [intOf]; omega

set_option maxHeartbeats 1000000 in
theorem refLevel_no (x : Int) (w : World) (h : ¬ okN x) : Calls Tryz.prog 70 #[.int .i64 x] w fun e w' => e = .returned (.int .i64 0) ∧ w = w' := by
  unfold okN at h
  by_cases h0 : 0 ≤ x
  · have h1 : ¬ x ≤ 2046 := fun h1 => h ⟨h0, h1⟩
    clear h
    go_enter Tryz.func70, Tryz.ntmps70
    go_wp2_with fail
    go_loop [3, 4] (fun k y => k = .int .i64 0 ∧ y = .int .i64 x) (fun _ _ => 0)
    case atStart => exact ⟨rfl, rfl⟩
    case round =>
      obtain ⟨rfl, rfl⟩ := hrel
      go_wp2
      go_ret
      exact ⟨rfl, rfl⟩
  · clear h
    go_enter Tryz.func70, Tryz.ntmps70
    go_wp2_with fail
    go_loop [3, 4] (fun k y => k = .int .i64 0 ∧ y = .int .i64 x) (fun _ _ => 0)
    case atStart => exact ⟨rfl, rfl⟩
    case round =>
      obtain ⟨rfl, rfl⟩ := hrel
      go_wp2
      go_ret
      exact ⟨rfl, rfl⟩
theorem refLevel_any (x : Int) (w : World) : Calls Tryz.prog 70 #[.int .i64 x] w fun e w' => e = .returned (.int .i64 (levV x)) ∧ w = w' := by
  by_cases h : okN x
  · obtain ⟨j, q, rfl, hj, hq⟩ := (small_iff x).1 h
    rw [levV_nd hj hq]
    exact refLevel_nd j q w hj hq
  · rw [levV_no h]
    exact refLevel_no x w h

set_option maxHeartbeats 1000000 in
theorem refHalf8_any (k : Nat) (w : World) (hk : k ≤ 20) : Calls Tryz.prog 71 #[.int .i64 (k : Int)] w fun e w' => e = .returned (.int .i64 ((2 ^ k : Nat) : Int)) ∧ w = w' := by
  have HP : Hid (∀ i, i < k → 0 ≤ ((2 ^ i : Nat) : Int) ∧ ((2 ^ i : Nat) : Int) ≤ 1048576 ∧ 2 * ((2 ^ i : Nat) : Int) = ((2 ^ (i + 1) : Nat) : Int)) := fun i hi => by
    have h1 : (2 : Nat) ^ i ≤ 2 ^ 20 := Nat.pow_le_pow_right (by omega) (by omega)
    have h2 := p2_succ i
    generalize 2 ^ (i + 1) = N at *
    generalize 2 ^ i = M at *
    omega
  obtain ⟨f, hf⟩ : ∃ f : Nat → Int, f = fun i => ((2 ^ i : Nat) : Int) := ⟨_, rfl⟩
  have hfi : ∀ i, ((2 ^ i : Nat) : Int) = f i := fun i => by rw [hf]
  have hf0 : f 0 = 1 := by rw [hf]; rfl
  simp only [hfi] at *
  clear hf hfi
  have HF0 := Lib.hid hf0
  clear hf0
  go_enter Tryz.func71, Tryz.ntmps71
  go_wp2_with fail
  go_loop [3, 4] (fun n y => ∃ i : Nat, i ≤ k ∧ n = .int .i64 (f i) ∧ y = .int .i64 (i : Int)) (fun _ y => (k - (intOf y).toNat))
  case atStart => exact ⟨0, Nat.zero_le _, by rw [HF0.out], rfl⟩
  case round =>
    obtain ⟨i, hi, rfl, rfl⟩ := hrel
    by_cases hlt : i < k
    · obtain ⟨h1, h2, h3⟩ := HP.out i hlt
      have HN := Lib.hid h3
      have hw : IntKind.i64.wrap (2 * f i) = 2 * f i := IntWalk.i64_in _ (by omega)
      clear HP h3 HF0
      go_wp2
      go_round
      case rel => exact ⟨i + 1, by omega, by rw [← HN.out], by go_num⟩
      case measure => simp [intOf]; omega
    · obtain rfl : i = k := by omega
      go_wp2
      go_ret
      exact ⟨rfl, rfl⟩
end Go.Proofs.YtobldbodafaajaaGreatDoor

/- pyxref08: Left, Right, Parent, Sibling. -/
set_option linter.unusedVariables false
set_option linter.unusedSimpArgs false
namespace Go.Proofs.YtobldbodafaajaaGreatDoor
open Go.RowKit

set_option maxHeartbeats 1000000 in
theorem refLeft_any (x : Int) (w : World) : Calls Tryz.prog 34 #[.int .i64 x] w fun e w' => e = .returned (.tuple #[.int .i64 (lefV x), .int .i64 (chE x)]) ∧ w = w' := by
  have HLV := Lib.hid (refLevel_any x w)
  by_cases h : levV x = 0
  · rw [show lefV x = 0 from if_pos h, show chE x = 1 from if_pos h]
    rw [h] at HLV
    clear h
    go_enter Tryz.func34, Tryz.ntmps34
    go_wp2_with fail
    refine HLV.out.mono ?_; rintro _ _ ⟨rfl, rfl⟩
    go_wp2_with fail
    go_ret2
    exact ⟨rfl, rfl⟩
  · have hok : okN x := by
      by_cases h2 : okN x
      · exact h2
      · exact absurd (levV_no h2) h
    obtain ⟨j, q, rfl, hj, hq⟩ := (small_iff x).1 hok
    have hb := (small_iff ((nd j q : Nat) : Int)).2 ⟨j, q, rfl, hj, hq⟩
    rw [levV_nd hj hq] at h HLV
    cases j with
    | zero => exact absurd rfl h
    | succ j =>
      obtain ⟨e1, e2, e3⟩ := ch_yes (j := j) hj hq
      rw [e1, e2]
      have HH := Lib.hid (refHalf8_any j w (by omega))
      have hp : (2 : Nat) ^ j ≤ 2 ^ 10 := Nat.pow_le_pow_right (by omega) (by omega)
      have hl := nd_left j q
      have hr := nd_right j q
      have i1 : IntKind.i64.wrap (((j + 1 : Nat) : Int) - 1) = (j : Int) := by rw [IntWalk.i64_in _ (by omega)]; omega
      obtain ⟨M, hM⟩ : ∃ M, 2 ^ j = M := ⟨_, rfl⟩
      rw [hM] at HH hp hl hr
      have i2 : IntKind.i64.wrap (((nd (j + 1) q : Nat) : Int) - (M : Int)) = ((nd j (2 * q) : Nat) : Int) := by rw [IntWalk.i64_in _ (by omega)]; omega
      have i3 : (((j + 1 : Nat) : Int) == 0) = false := beq_eq_false_iff_ne.2 (by omega)
      have i4 : ¬ ((j + 1 : Nat) : Int) = 0 := by omega
      generalize ((nd (j + 1) q : Nat) : Int) = X at *
      generalize ((nd j (2 * q) : Nat) : Int) = Y at *
      generalize ((j + 1 : Nat) : Int) = J at *
      clear h hok hb e1 e2 e3 hp hl hr hM hj hq
      go_enter Tryz.func34, Tryz.ntmps34
      go_wp2_with fail
      refine HLV.out.mono ?_; rintro _ _ ⟨rfl, rfl⟩
      go_wp2_with fail
      refine HH.out.mono ?_; rintro _ _ ⟨rfl, rfl⟩
      go_wp2_with fail
      go_ret2
      exact ⟨rfl, rfl⟩

set_option maxHeartbeats 1000000 in
theorem refRight_any (x : Int) (w : World) : Calls Tryz.prog 35 #[.int .i64 x] w fun e w' => e = .returned (.tuple #[.int .i64 (rigV x), .int .i64 (chE x)]) ∧ w = w' := by
  have HLV := Lib.hid (refLevel_any x w)
  by_cases h : levV x = 0
  · rw [show rigV x = 0 from if_pos h, show chE x = 1 from if_pos h]
    rw [h] at HLV
    clear h
    go_enter Tryz.func35, Tryz.ntmps35
    go_wp2_with fail
    refine HLV.out.mono ?_; rintro _ _ ⟨rfl, rfl⟩
    go_wp2_with fail
    go_ret2
    exact ⟨rfl, rfl⟩
  · have hok : okN x := by
      by_cases h2 : okN x
      · exact h2
      · exact absurd (levV_no h2) h
    obtain ⟨j, q, rfl, hj, hq⟩ := (small_iff x).1 hok
    have hb := (small_iff ((nd j q : Nat) : Int)).2 ⟨j, q, rfl, hj, hq⟩
    rw [levV_nd hj hq] at h HLV
    cases j with
    | zero => exact absurd rfl h
    | succ j =>
      obtain ⟨e1, e2, e3⟩ := ch_yes (j := j) hj hq
      rw [e1, e3]
      have HH := Lib.hid (refHalf8_any j w (by omega))
      have hp : (2 : Nat) ^ j ≤ 2 ^ 10 := Nat.pow_le_pow_right (by omega) (by omega)
      have hl := nd_left j q
      have hr := nd_right j q
      have i1 : IntKind.i64.wrap (((j + 1 : Nat) : Int) - 1) = (j : Int) := by rw [IntWalk.i64_in _ (by omega)]; omega
      obtain ⟨M, hM⟩ : ∃ M, 2 ^ j = M := ⟨_, rfl⟩
      rw [hM] at HH hp hl hr
      have i2 : IntKind.i64.wrap (((nd (j + 1) q : Nat) : Int) + (M : Int)) = ((nd j (2 * q + 1) : Nat) : Int) := by rw [IntWalk.i64_in _ (by omega)]; omega
      have i3 : (((j + 1 : Nat) : Int) == 0) = false := beq_eq_false_iff_ne.2 (by omega)
      have i4 : ¬ ((j + 1 : Nat) : Int) = 0 := by omega
      generalize ((nd (j + 1) q : Nat) : Int) = X at *
      generalize ((nd j (2 * q + 1) : Nat) : Int) = Y at *
      generalize ((j + 1 : Nat) : Int) = J at *
      clear h hok hb e1 e2 e3 hp hl hr hM hj hq
      go_enter Tryz.func35, Tryz.ntmps35
      go_wp2_with fail
      refine HLV.out.mono ?_; rintro _ _ ⟨rfl, rfl⟩
      go_wp2_with fail
      refine HH.out.mono ?_; rintro _ _ ⟨rfl, rfl⟩
      go_wp2_with fail
      go_ret2
      exact ⟨rfl, rfl⟩

theorem ch_nd_or (p : Int) : chE p = 1 ∨ chE p = 0 := by unfold chE; split <;> simp
/-- Whose child a node is. -/
theorem child_iff {j q : Nat} (p : Nat) (hp : p ≤ 2046) (hj : j ≤ 10) :
    (chE (p : Int) = 0 ∧ (lefV (p : Int) = ((nd j q : Nat) : Int) ∨ rigV (p : Int) = ((nd j q : Nat) : Int))) ↔ p = nd (j + 1) (q / 2) := by
  obtain ⟨i, r, e, hi, hr⟩ := nd_of 10 p (by omega)
  subst e
  cases i with
  | zero =>
    obtain ⟨e1, e2, e3⟩ := ch_leaf (q := r) (by simpa using hr)
    rw [e1]
    constructor
    · rintro ⟨h, _⟩; omega
    · intro h; exact absurd (nd_inj h).1 (by omega)
  | succ i =>
    obtain ⟨e1, e2, e3⟩ := ch_yes (j := i) hi hr
    rw [e1, e2, e3]
    constructor
    · rintro ⟨_, h | h⟩
      · obtain ⟨rfl, rfl⟩ := nd_inj (Int.ofNat.inj h)
        congr 1; omega
      · obtain ⟨rfl, rfl⟩ := nd_inj (Int.ofNat.inj h)
        congr 1; omega
    · intro h
      obtain ⟨h1, h2⟩ := nd_inj h
      obtain rfl : i = j := by omega
      refine ⟨rfl, ?_⟩
      by_cases h3 : q % 2 = 0
      · left; congr 2; omega
      · right; congr 2; omega
end Go.Proofs.YtobldbodafaajaaGreatDoor

/- pyxref08: Parent, Sibling. -/
set_option linter.unusedVariables false
set_option linter.unusedSimpArgs false
namespace Go.Proofs.YtobldbodafaajaaGreatDoor
open Go.RowKit

set_option maxHeartbeats 2000000 in
/-- The search: the first node below W whose child X is, if there is one (T). -/
theorem refParent_yes (X n : Int) (W T : Nat) (w : World) (hn : IntKind.i64.wrap (2 * n) = 2 * n) (hW : 2 * n - 1 = (W : Int)) (hWb : W ≤ 2047) (hin : inB X n = true) (hn2 : -9223372036854775808 ≤ n ∧ n ≤ 9223372036854775807)
    (hm : ∀ p : Nat, p ≤ 2046 → ((chE (p : Int) = 0 ∧ (lefV (p : Int) = X ∨ rigV (p : Int) = X)) ↔ p = T)) :
    Calls Tryz.prog 52 #[.int .i64 X, .int .i64 n] w fun e w' => e = .returned (if T < W then .tuple #[.int .i64 (T : Int), .int .i64 0] else .tuple #[.int .i64 0, .int .i64 11]) ∧ w = w' := by
  have HN := Lib.hid (refNode_any X n w hn2)
  rw [hin] at HN
  have HM := Lib.hid hm
  have HL := Lib.hid (fun (p : Nat) => refLeft_any (p : Int) w)
  have HR := Lib.hid (fun (p : Nat) => refRight_any (p : Int) w)
  have i1 : IntKind.i64.wrap (2 * n - 1) = (W : Int) := by rw [hW]; exact IntWalk.i64_in _ (by omega)
  have i0 : IntKind.i64.wrap (W : Int) = (W : Int) := IntWalk.i64_in _ (by omega)
  obtain ⟨V, hV⟩ : ∃ V, (if T < W then (.tuple #[.int .i64 (T : Int), .int .i64 0] : Value) else .tuple #[.int .i64 0, .int .i64 11]) = V := ⟨_, rfl⟩
  rw [hV]
  have HV := Lib.hid hV
  have HT := Lib.hid (Nat.lt_or_ge T W)
  clear hm hin hn2 hV
  go_enter Tryz.func52, Tryz.ntmps52
  go_wp2_with fail
  refine HN.out.mono ?_; rintro _ _ ⟨rfl, rfl⟩
  clear HN
  go_wp2_with fail
  go_loop [7] (fun y => ∃ p : Nat, p ≤ W ∧ p ≤ T ∧ y = .int .i64 (p : Int)) (fun y => (W - (intOf y).toNat))
  case atStart => exact ⟨0, Nat.zero_le _, Nat.zero_le _, rfl⟩
  case round =>
    obtain ⟨p, hp, hpT, rfl⟩ := hrel
    by_cases hlt : p < W
    · have hltI : (p : Int) < (W : Int) := by omega
      have hmp := HM.out p (by omega)
      have HLp := Lib.hid (HL.out p)
      have HRp := Lib.hid (HR.out p)
      have i2 : IntKind.i64.wrap ((p : Int) + 1) = (p : Int) + 1 := IntWalk.i64_in _ (by omega)
      have hE := ch_nd_or (p : Int)
      clear HM HL HR hW
      generalize chE (p : Int) = E at *
      generalize lefV (p : Int) = L at *
      generalize rigV (p : Int) = R at *
      by_cases he : p = T
      · obtain ⟨h1, h2⟩ := hmp.2 he
        have HV2 : Hid (V = .tuple #[.int .i64 (p : Int), .int .i64 0]) := by have := HV.out; rw [if_pos (by omega)] at this; rw [he]; exact this.symm
        subst h1
        clear hmp hE HV HT he hpT
        by_cases h3 : L = X
        · subst h3
          clear h2
          go_wp2_with fail
          refine HLp.out.mono ?_; rintro _ _ ⟨rfl, rfl⟩
          go_wp2_with fail
          refine HRp.out.mono ?_; rintro _ _ ⟨rfl, rfl⟩
          go_wp2
          go_ret2
          exact ⟨by rw [HV2.out] <;> rfl, rfl⟩
        · have h4 : R = X := h2.resolve_left h3
          subst h4
          have b1 : (L == R) = false := beq_eq_false_iff_ne.2 h3
          clear h2
          go_wp2_with fail
          refine HLp.out.mono ?_; rintro _ _ ⟨rfl, rfl⟩
          go_wp2_with fail
          refine HRp.out.mono ?_; rintro _ _ ⟨rfl, rfl⟩
          go_wp2
          go_ret2
          exact ⟨by rw [HV2.out] <;> rfl, rfl⟩
      · have hno : ¬ (E = 0 ∧ (L = X ∨ R = X)) := fun h => he (hmp.1 h)
        have hpT2 : p + 1 ≤ T := by omega
        clear hmp HV HT he hpT
        rcases hE with h1 | h1
        · subst h1
          clear hno
          go_wp2_with fail
          refine HLp.out.mono ?_; rintro _ _ ⟨rfl, rfl⟩
          go_wp2_with fail
          refine HRp.out.mono ?_; rintro _ _ ⟨rfl, rfl⟩
          go_wp2
          go_round
          case rel => exact ⟨p + 1, by omega, hpT2, by go_num⟩
          case measure => simp [intOf]; omega
        · subst h1
          have h3 : ¬ L = X := fun h => hno ⟨rfl, .inl h⟩
          have h4 : ¬ R = X := fun h => hno ⟨rfl, .inr h⟩
          have b1 : (L == X) = false := beq_eq_false_iff_ne.2 h3
          have b2 : (R == X) = false := beq_eq_false_iff_ne.2 h4
          clear hno
          go_wp2_with fail
          refine HLp.out.mono ?_; rintro _ _ ⟨rfl, rfl⟩
          go_wp2_with fail
          refine HRp.out.mono ?_; rintro _ _ ⟨rfl, rfl⟩
          go_wp2
          go_round
          case rel => exact ⟨p + 1, by omega, hpT2, by go_num⟩
          case measure => simp [intOf]; omega
    · obtain rfl : p = W := by omega
      have HV2 : Hid (V = .tuple #[.int .i64 0, .int .i64 11]) := by have := HV.out; rw [if_neg (by omega)] at this; exact this.symm
      clear HM HL HR HV HT hW hpT
      go_wp2
      go_ret2
      exact ⟨by rw [HV2.out] <;> rfl, rfl⟩

set_option maxHeartbeats 1000000 in
theorem refParent_any (x n : Int) (w : World) (hn2 : -9223372036854775808 ≤ n ∧ n ≤ 9223372036854775807) : Calls Tryz.prog 52 #[.int .i64 x, .int .i64 n] w fun e w' => e = .returned (.tuple #[.int .i64 (paV x n), .int .i64 (paE x n)]) ∧ w = w' := by
  by_cases h : inB x n = true
  · obtain ⟨K, j, q, hK, rfl, rfl, hj, hq⟩ := (inB_iff x n).1 h
    obtain ⟨_, hj10, hq10⟩ := nd_small hK hj hq
    have h1 := p2_le hK
    have h2 := p2_pos K
    have h3 := p2_succ K
    obtain ⟨W, hW⟩ : ∃ W, 2 ^ (K + 1) - 1 = W := ⟨_, rfl⟩
    have := refParent_yes ((nd j q : Nat) : Int) ((2 ^ K : Nat) : Int) W (nd (j + 1) (q / 2)) w (IntWalk.i64_in _ (by omega)) (by omega) (by omega) h hn2 (fun p hp => child_iff p hp hj10)
    refine this.mono ?_
    rintro _ _ ⟨rfl, rfl⟩
    by_cases hr : j = K
    · subst hr
      have hq0 : q = 0 := by simp at hq; exact hq
      subst hq0
      obtain ⟨e1, e2, _⟩ := pa_root hK
      rw [e1, e2, if_neg]
      · exact ⟨rfl, rfl⟩
      · intro hlt
        rw [← hW] at hlt
        have := (nd_in hlt).1
        omega
    · obtain ⟨e1, e2, _⟩ := pa_yes (K := K) (j := j) (q := q) hK (by omega) hq
      rw [e1, e2, if_pos]
      · exact ⟨rfl, rfl⟩
      · rw [← hW]
        refine nd_lt (by omega) ?_
        have e : K - j = (K - (j + 1)) + 1 := by omega
        rw [e, p2_succ] at hq
        omega
  · obtain ⟨e1, e2, _⟩ := pa_no h
    have h2 : inB x n = false := by rw [Bool.eq_false_iff]; exact h
    have HN := Lib.hid (refNode_any x n w hn2)
    rw [h2] at HN
    rw [e1, e2]
    clear h h2 e1 e2 hn2
    go_enter Tryz.func52, Tryz.ntmps52
    go_wp2_with fail
    refine HN.out.mono ?_; rintro _ _ ⟨rfl, rfl⟩
    go_wp2_with fail
    go_ret2
    exact ⟨rfl, rfl⟩
end Go.Proofs.YtobldbodafaajaaGreatDoor

/- pyxref08: Sibling, Path, Copath. -/
set_option linter.unusedVariables false
set_option linter.unusedSimpArgs false
namespace Go.Proofs.YtobldbodafaajaaGreatDoor
open Go.RowKit

theorem Tryz.info83 : (Tryz.prog.info? 3).map (fun i => (i.zero, i.size, i.bytes)) = some (some (.int .i64 0), 1, 8) := by kernel_rfl
theorem s1ints : S1 Tryz.prog 35 3 := S1.mk' Tryz.underlying35 Tryz.info83 (by decide) rfl

/-- What a node's way up is told by. -/
structure Way (K j q : Nat) : Prop where
  node : ∀ i, i ≤ K - j → 0 ≤ ((nd (j + i) (q / 2 ^ i) : Nat) : Int) ∧ ((nd (j + i) (q / 2 ^ i) : Nat) : Int) ≤ 2046 ∧ lev (nd (j + i) (q / 2 ^ i)) = j + i
  root : ∀ i, i ≤ K - j → (((nd (j + i) (q / 2 ^ i) : Nat) : Int) = ((2 ^ K : Nat) : Int) - 1 ↔ i = K - j)
  up : ∀ i, i < K - j → paE ((nd (j + i) (q / 2 ^ i) : Nat) : Int) ((2 ^ K : Nat) : Int) = 0 ∧ paV ((nd (j + i) (q / 2 ^ i) : Nat) : Int) ((2 ^ K : Nat) : Int) = ((nd (j + (i + 1)) (q / 2 ^ (i + 1)) : Nat) : Int) ∧ siV ((nd (j + i) (q / 2 ^ i) : Nat) : Int) ((2 ^ K : Nat) : Int) = ((nd (j + i) (sq (q / 2 ^ i)) : Nat) : Int)
theorem way {K j q : Nat} (hK : K ≤ 10) (hj : j ≤ K) (hq : q < 2 ^ (K - j)) : Way K j q := by
  have hl : ∀ i, i ≤ K - j → q / 2 ^ i < 2 ^ (K - (j + i)) := fun i hi => quot_lt hq hi
  refine ⟨fun i hi => ?_, fun i hi => ?_, fun i hi => ?_⟩
  · obtain ⟨h1, h2, h3⟩ := nd_small hK (j := j + i) (by omega) (hl i hi)
    exact ⟨by omega, by omega, lev_nd _ _ (by omega)⟩
  · have h1 := nd_is_root (hl i hi) (show j + i ≤ K by omega)
    have h2 := p2_pos K
    generalize nd (j + i) (q / 2 ^ i) = X at *
    generalize 2 ^ K = N at *
    constructor
    · intro h3
      have := h1.1 (by omega)
      omega
    · intro h3
      have := h1.2 (by omega)
      omega
  · obtain ⟨e1, e2, e3⟩ := pa_yes (K := K) (j := j + i) (q := q / 2 ^ i) hK (by omega) (hl i (by omega))
    refine ⟨e1, ?_, e3⟩
    rw [e2, quot_succ]
    rfl

set_option maxHeartbeats 2000000 in
theorem refPath_yes (K j q : Nat) (w : World) (hK : K ≤ 10) (hj : j ≤ K) (hq : q < 2 ^ (K - j)) :
    Calls Tryz.prog 21 #[.int .i64 ((nd j q : Nat) : Int), .int .i64 ((2 ^ K : Nat) : Int)] w fun e w' => (∃ v, e = .returned (.tuple #[v, .int .i64 0]) ∧ ON 3 w' w.heap.size v (pathN K j q)) ∧ Kp w w' := by
  have S := s1ints
  have hin := (inB_iff ((nd j q : Nat) : Int) ((2 ^ K : Nat) : Int)).2 ⟨K, j, q, hK, rfl, rfl, hj, hq⟩
  have hb := p2_le hK
  have hb2 := p2_pos K
  have hn2 : -9223372036854775808 ≤ ((2 ^ K : Nat) : Int) ∧ ((2 ^ K : Nat) : Int) ≤ 9223372036854775807 := by omega
  have HN := Lib.hid (refNode_any ((nd j q : Nat) : Int) ((2 ^ K : Nat) : Int) w hn2)
  rw [hin] at HN
  obtain ⟨w1, w2, w3⟩ := way hK hj hq
  have HT := Lib.hid (pathN_take K j q)
  have HL := Lib.hid (pathN_length K j q)
  have HP : Hid (∀ i W, i < K - j → Calls Tryz.prog 52 #[.int .i64 ((nd (j + i) (q / 2 ^ i) : Nat) : Int), .int .i64 ((2 ^ K : Nat) : Int)] W fun e w' => e = .returned (.tuple #[.int .i64 ((nd (j + (i + 1)) (q / 2 ^ (i + 1)) : Nat) : Int), .int .i64 0]) ∧ W = w') := fun i W hi => by
    have := refParent_any ((nd (j + i) (q / 2 ^ i) : Nat) : Int) ((2 ^ K : Nat) : Int) W hn2
    rwa [(w3 i hi).1, (w3 i hi).2.1] at this
  have i1 : IntKind.i64.wrap (((2 ^ K : Nat) : Int) - 1) = ((2 ^ K : Nat) : Int) - 1 := IntWalk.i64_in _ (by omega)
  obtain ⟨f, hf⟩ : ∃ f : Nat → Nat, f = fun i => nd (j + i) (q / 2 ^ i) := ⟨_, rfl⟩
  have hfi : ∀ i, nd (j + i) (q / 2 ^ i) = f i := fun i => by rw [hf]
  have hf0 : nd j q = f 0 := by rw [hf]; simp
  have HT2 : Hid (∀ i, i < K - j → (pathN K j q).take (i + 1) = (pathN K j q).take i ++ [f (i + 1)]) := fun i hi => by
    rw [HT.out i hi]
    rw [hf]; simp only []; congr 3; omega
  have HE : Hid ((pathN K j q).take (K - j) = pathN K j q) := by unfold Hid; rw [List.take_of_length_le (by rw [HL.out]; omega)]
  generalize pathN K j q = PL at *
  simp only [hfi] at *
  rw [hf0] at HN ⊢
  have W1 := Lib.hid w1
  have W2 := Lib.hid w2
  have hdk : K - j ≤ 10 := by omega
  have HJ : Hid (∀ i, i ≤ K - j → lev (f i) = j + i) := fun i hi => (w1 i hi).2.2
  generalize ((2 ^ K : Nat) : Int) = N at *
  clear hin hb hb2 hn2 w1 w2 w3 HT hf hfi hf0 hq
  go_enter Tryz.func21, Tryz.ntmps21
  go_wp2_with fail
  refine HN.out.mono ?_; rintro _ _ ⟨rfl, rfl⟩
  clear HN
  go_wp2_with fail
  go_loopw [0, 7] (fun x v wr => ∃ i : Nat, i ≤ K - j ∧ x = .int .i64 ((f i : Nat) : Int) ∧ ON 3 wr w.heap.size v (PL.take i) ∧ Kp w wr) (fun x _ _ => (20 - lev (intOf x).toNat))
  case atStart => exact ⟨0, Nat.zero_le _, rfl, ON.nil _ _ _, Kp.refl _⟩
  case round =>
    obtain ⟨i, hi, rfl, ho, hk⟩ := hrel
    have hroot := W2.out i hi
    obtain ⟨b1, b2, b3⟩ := W1.out i hi
    by_cases hlt : i < K - j
    · have hne : ¬ ((f i : Nat) : Int) = N - 1 := fun h => by have := hroot.1 h; omega
      have hbf : (((f i : Nat) : Int) == N - 1) = false := beq_eq_false_iff_ne.2 hne
      have HP1 := Lib.hid (HP.out i wr hlt)
      have HTI := Lib.hid (HT2.out i hlt)
      have HLV := Lib.hid (And.intro (HJ.out i hi) (HJ.out (i + 1) (by omega)))
      have hsz := hk.size
      have HLN : Hid ((PL.take i).length ≤ 1000000) := by unfold Hid; rw [List.length_take, HL.out]; omega
      generalize PL.take i = L at *
      clear W1 W2 HP HT2 HE HJ hroot b1 b2 b3
      go_wp2_with fail
      refine HP1.out.mono ?_; rintro _ _ ⟨rfl, rfl⟩
      go_wp2_with (at_builtin; refine wpList_append_n (o := ⟨some 28, _, _, _, _, _⟩) S rfl _ _ rfl w.heap.size _ L rfl (ho.kp ((Kp.refl wr).alloc _)) _ _ rfl (ON.lit1 wr 3 (f (i + 1))) HLN.out (by simp; omega) ?_; intro v4 w4 o4 g4; have k4 : Kp w w4 := Kp.grown (hk.alloc _) g4 ho.own_ge)
      go_roundw
      case rel => exact ⟨i + 1, by omega, rfl, by rw [HTI.out]; exact o4, k4⟩
      case measure => have := HLV.out; simp [intOf]; omega
    · obtain rfl : i = K - j := by omega
      have heq : ((f (K - j) : Nat) : Int) = N - 1 := hroot.2 rfl
      rw [HE.out] at ho
      have R := Lib.hid ho
      obtain ⟨av, nv, cv, rfl⟩ := ho.rn.sl
      have KK := Lib.hid hk
      clear W1 W2 HP HT2 HE HJ hroot b1 b2 b3 ho hk
      go_wp2_with fail
      go_ret2
      exact ⟨⟨_, rfl, R.out⟩, KK.out⟩

set_option maxHeartbeats 1000000 in
theorem refPath_own (x n : Int) (w : World) (hn2 : -9223372036854775808 ≤ n ∧ n ≤ 9223372036854775807) :
    Calls Tryz.prog 21 #[.int .i64 x, .int .i64 n] w fun e w' => (∃ v, e = .returned (.tuple #[v, .int .i64 (arE x n)]) ∧ ON 3 w' w.heap.size v (pathV x n)) ∧ Kp w w' := by
  by_cases h : inB x n = true
  · obtain ⟨K, j, q, hK, rfl, rfl, hj, hq⟩ := (inB_iff x n).1 h
    obtain ⟨e1, e2, e3⟩ := ar_yes hK hj hq
    rw [e1, e2]
    exact refPath_yes K j q w hK hj hq
  · obtain ⟨e1, e2, e3⟩ := ar_no h
    have h2 : inB x n = false := by rw [Bool.eq_false_iff]; exact h
    have HN := Lib.hid (refNode_any x n w hn2)
    rw [h2] at HN
    rw [e1, e2]
    clear h h2 e1 e2 e3 hn2
    go_enter Tryz.func21, Tryz.ntmps21
    go_wp2_with fail
    refine HN.out.mono ?_; rintro _ _ ⟨rfl, rfl⟩
    go_wp2_with fail
    go_ret2
    exact ⟨⟨_, rfl, ON.nil _ _ _⟩, Kp.refl _⟩
theorem refPath_any (x n : Int) (w : World) (hn2 : -9223372036854775808 ≤ n ∧ n ≤ 9223372036854775807) :
    Calls Tryz.prog 21 #[.int .i64 x, .int .i64 n] w fun e w' => (∃ v, e = .returned (.tuple #[v, .int .i64 (arE x n)]) ∧ RN w' v (pathV x n)) ∧ Kp w w' := by
  refine (refPath_own x n w hn2).mono ?_
  rintro _ w' ⟨⟨v, rfl, o⟩, k⟩
  exact ⟨⟨v, rfl, o.rn⟩, k⟩

end Go.Proofs.YtobldbodafaajaaGreatDoor

/- pyxref08: Leaves, Ints, In. -/
set_option linter.unusedVariables false
set_option linter.unusedSimpArgs false
namespace Go.Proofs.YtobldbodafaajaaGreatDoor
open Go.RowKit

theorem down_lt {j q i : Nat} (hj : j ≤ 10) (hi : i ≤ j) (hq : q < 2 ^ (10 - j)) : 2 ^ (j - i) * q + 2 ^ (j - i) - 1 < 2 ^ (10 - i) := by
  have e : 2 ^ (10 - i) = 2 ^ (j - i) * 2 ^ (10 - j) := by rw [← Nat.pow_add]; congr 1; omega
  have h1 : 2 ^ (j - i) * (q + 1) ≤ 2 ^ (10 - i) := by rw [e]; exact Nat.mul_le_mul_left _ hq
  rw [Nat.mul_add, Nat.mul_one] at h1
  have := p2_pos (j - i)
  omega
/-- The way down to a first and to a last leaf. -/
theorem down {j q : Nat} (hj : j ≤ 10) (hq : q < 2 ^ (10 - j)) (f g : Nat → Nat) (hf : f = fun i => nd i (2 ^ (j - i) * q)) (hg : g = fun i => nd i (2 ^ (j - i) * q + 2 ^ (j - i) - 1)) :
    (∀ i, i ≤ j → levV ((f i : Nat) : Int) = (i : Int) ∧ lev (f i) = i ∧ levV ((g i : Nat) : Int) = (i : Int) ∧ lev (g i) = i) ∧
    (∀ i, i + 1 ≤ j → chE ((f (i + 1) : Nat) : Int) = 0 ∧ lefV ((f (i + 1) : Nat) : Int) = ((f i : Nat) : Int) ∧ chE ((g (i + 1) : Nat) : Int) = 0 ∧ rigV ((g (i + 1) : Nat) : Int) = ((g i : Nat) : Int)) ∧
    f j = nd j q ∧ g j = nd j q ∧ ((f 0 : Nat) : Int).tdiv 2 = ((2 ^ j * q : Nat) : Int) ∧ ((g 0 : Nat) : Int).tdiv 2 = ((2 ^ j * q + 2 ^ j - 1 : Nat) : Int) := by
  subst hf hg
  have hb : ∀ i, i ≤ j → 2 ^ (j - i) * q < 2 ^ (10 - i) ∧ 2 ^ (j - i) * q + 2 ^ (j - i) - 1 < 2 ^ (10 - i) := fun i hi => by
    have h1 := down_lt hj hi hq
    have h2 := p2_pos (j - i)
    omega
  refine ⟨fun i hi => ?_, fun i hi => ?_, ?_, ?_, ?_, ?_⟩
  · obtain ⟨h1, h2⟩ := hb i hi
    exact ⟨levV_nd (by omega) h1, lev_nd _ _ (by omega), levV_nd (by omega) h2, lev_nd _ _ (by omega)⟩
  · obtain ⟨h1, h2⟩ := hb (i + 1) hi
    obtain ⟨e1, e2, _⟩ := ch_yes (j := i) (q := 2 ^ (j - (i + 1)) * q) (by omega) h1
    obtain ⟨d1, _, d3⟩ := ch_yes (j := i) (q := 2 ^ (j - (i + 1)) * q + 2 ^ (j - (i + 1)) - 1) (by omega) h2
    have e : j - i = (j - (i + 1)) + 1 := by omega
    have hp := p2_pos (j - (i + 1))
    refine ⟨e1, ?_, d1, ?_⟩
    · rw [e2]
      simp only []
      rw [e, p2_succ, Nat.mul_assoc]
    · rw [d3]
      simp only []
      rw [e, p2_succ, Nat.mul_assoc]
      congr 2
      omega
  · simp
  · simp
  · simp only [Nat.sub_zero]
    rw [nd_leaf, Int.tdiv_eq_ediv_of_nonneg (by omega)]
    omega
  · simp only [Nat.sub_zero]
    rw [nd_leaf, Int.tdiv_eq_ediv_of_nonneg (by omega)]
    omega

set_option maxHeartbeats 2000000 in
theorem refLeaves_yes (j q : Nat) (w : World) (hj : j ≤ 10) (hq : q < 2 ^ (10 - j)) :
    Calls Tryz.prog 89 #[.int .i64 ((nd j q : Nat) : Int)] w fun e w' => e = .returned (.tuple #[.int .i64 ((2 ^ j * q : Nat) : Int), .int .i64 ((2 ^ j * q + 2 ^ j - 1 : Nat) : Int)]) ∧ w = w' := by
  obtain ⟨b0, b1⟩ := (small_iff ((nd j q : Nat) : Int)).2 ⟨j, q, rfl, hj, hq⟩
  obtain ⟨f, hf⟩ : ∃ f : Nat → Nat, f = fun i => nd i (2 ^ (j - i) * q) := ⟨_, rfl⟩
  obtain ⟨g, hg⟩ : ∃ g : Nat → Nat, g = fun i => nd i (2 ^ (j - i) * q + 2 ^ (j - i) - 1) := ⟨_, rfl⟩
  obtain ⟨d1, d2, d3, d4, d5, d6⟩ := down hj hq f g hf hg
  have hl : 2 ^ j * q + 2 ^ j - 1 < 2 ^ (10 - 0) := by have := down_lt hj (Nat.zero_le j) hq; simpa using this
  have D1 := Lib.hid d1
  have D2 := Lib.hid d2
  have HLV : Hid (∀ x, Calls Tryz.prog 70 #[.int .i64 x] w fun e w' => e = .returned (.int .i64 (levV x)) ∧ w = w') := fun x => refLevel_any x w
  have HLF : Hid (∀ x, Calls Tryz.prog 34 #[.int .i64 x] w fun e w' => e = .returned (.tuple #[.int .i64 (lefV x), .int .i64 (chE x)]) ∧ w = w') := fun x => refLeft_any x w
  have HRT : Hid (∀ x, Calls Tryz.prog 35 #[.int .i64 x] w fun e w' => e = .returned (.tuple #[.int .i64 (rigV x), .int .i64 (chE x)]) ∧ w = w') := fun x => refRight_any x w
  have hlo : IntKind.i64.wrap ((2 ^ j * q : Nat) : Int) = ((2 ^ j * q : Nat) : Int) := IntWalk.i64_in _ (by have := p2_pos j; omega)
  have hhi : IntKind.i64.wrap ((2 ^ j * q + 2 ^ j - 1 : Nat) : Int) = ((2 ^ j * q + 2 ^ j - 1 : Nat) : Int) := IntWalk.i64_in _ (by omega)
  have D5 := Lib.hid (And.intro d5 d6)
  have D3 := Lib.hid (And.intro d3 d4)
  generalize ((2 ^ j * q : Nat) : Int) = LO at *
  generalize ((2 ^ j * q + 2 ^ j - 1 : Nat) : Int) = HI at *
  generalize nd j q = X at *
  clear d1 d2 d3 d4 d5 d6 hf hg hl hq
  go_enter Tryz.func89, Tryz.ntmps89
  go_wp2_with fail
  go_loop [4] (fun a => ∃ i : Nat, i ≤ j ∧ a = .int .i64 ((f i : Nat) : Int)) (fun a => lev (intOf a).toNat)
  case atStart => exact ⟨j, Nat.le_refl _, by rw [D3.out.1]⟩
  case round =>
    obtain ⟨i, hi, rfl⟩ := hrel
    have HL1 := HLV.out ((f i : Nat) : Int)
    rw [(D1.out i hi).1] at HL1
    have HL2 := Lib.hid HL1
    clear HL1
    cases i with
    | succ i =>
      obtain ⟨c1, c2, _, _⟩ := D2.out i hi
      have HF1 := HLF.out ((f (i + 1) : Nat) : Int)
      rw [c1, c2] at HF1
      have HF2 := Lib.hid HF1
      have hlv := Lib.hid (And.intro (D1.out (i + 1) hi).2.1 (D1.out i (by omega)).2.1)
      have hp : 0 < ((i + 1 : Nat) : Int) := by omega
      generalize ((i + 1 : Nat) : Int) = I at *
      clear HF1 c1 c2 D1 D2 HLV HLF HRT D5 D3
      go_wp2_with fail
      refine HL2.out.mono ?_; rintro _ _ ⟨rfl, rfl⟩
      go_wp2_with fail
      refine HF2.out.mono ?_; rintro _ _ ⟨rfl, rfl⟩
      go_wp2_with fail
      go_round
      case rel => exact ⟨i, by omega, rfl⟩
      case measure => have := hlv.out; simp [intOf]; omega
    | zero =>
      have i1 := D5.out.1
      go_wp2_with fail
      refine HL2.out.mono ?_; rintro _ _ ⟨rfl, rfl⟩
      clear HL2 hi HLF
      go_wp2_with fail
      go_loop [5] (fun b => ∃ i : Nat, i ≤ j ∧ b = .int .i64 ((g i : Nat) : Int)) (fun b => lev (intOf b).toNat)
      case atStart => exact ⟨j, Nat.le_refl _, by rw [D3.out.2]⟩
      case round =>
        obtain ⟨i, hi, rfl⟩ := hrel
        have HL1 := HLV.out ((g i : Nat) : Int)
        rw [(D1.out i hi).2.2.1] at HL1
        have HL2 := Lib.hid HL1
        clear HL1
        cases i with
        | succ i =>
          obtain ⟨_, _, c1, c2⟩ := D2.out i hi
          have HF1 := HRT.out ((g (i + 1) : Nat) : Int)
          rw [c1, c2] at HF1
          have HF2 := Lib.hid HF1
          have hlv := Lib.hid (And.intro (D1.out (i + 1) hi).2.2.2 (D1.out i (by omega)).2.2.2)
          have hp : 0 < ((i + 1 : Nat) : Int) := by omega
          generalize ((i + 1 : Nat) : Int) = I at *
          clear HF1 c1 c2 D1 D2 HLV HRT D5 D3
          go_wp2_with fail
          refine HL2.out.mono ?_; rintro _ _ ⟨rfl, rfl⟩
          go_wp2_with fail
          refine HF2.out.mono ?_; rintro _ _ ⟨rfl, rfl⟩
          go_wp2_with fail
          go_round
          case rel => exact ⟨i, by omega, rfl⟩
          case measure => have := hlv.out; simp [intOf]; omega
        | zero =>
          have i2 := D5.out.2
          clear D2 D1 HLV HRT D3 D5
          go_wp2_with fail
          refine HL2.out.mono ?_; rintro _ _ ⟨rfl, rfl⟩
          go_wp2_with fail
          go_ret2
          exact ⟨rfl, rfl⟩

set_option maxHeartbeats 1000000 in
theorem refLeaves_any (x : Int) (w : World) :
    Calls Tryz.prog 89 #[.int .i64 x] w fun e w' => e = .returned (.tuple #[.int .i64 (loV x), .int .i64 (hiV x)]) ∧ w = w' := by
  by_cases h : okN x
  · obtain ⟨j, q, rfl, hj, hq⟩ := (small_iff x).1 h
    obtain ⟨e1, e2⟩ := lv_nd hj hq
    rw [e1, e2]
    exact refLeaves_yes j q w hj hq
  · obtain ⟨e1, e2⟩ := lv_no h
    rw [e1, e2]
    unfold okN at h
    by_cases h0 : x < 0
    · clear h e1 e2
      go_enter Tryz.func89, Tryz.ntmps89
      go_wp2_with fail
      go_ret2
      exact ⟨rfl, rfl⟩
    · have h1 : 2046 < x := by omega
      clear h e1 e2
      go_enter Tryz.func89, Tryz.ntmps89
      go_wp2_with fail
      go_ret2
      exact ⟨rfl, rfl⟩

set_option maxHeartbeats 1000000 in
theorem refInts_any (u v : Value) (l m : List Nat) (w : World) (hu : RN w u l) (hv : RN w v m) :
    Calls Tryz.prog 50 #[u, v] w fun e w' => e = .returned (.bool (decide (l = m))) ∧ Kp w w' := by
  obtain ⟨a1, c1, rfl, p1, s1⟩ := hu.shape
  obtain ⟨a2, c2, rfl, p2, s2⟩ := hv.shape
  unfold maxLen at s1 s2
  by_cases hlen : l.length = m.length
  · have HEQ : Hid (∀ k, k < l.length → l.getD k 0 ≠ m.getD k 0 → decide (l = m) = false) := fun k hk hne => decide_eq_false (fun h => hne (by rw [h]))
    have HALL : Hid ((∀ k, k < l.length → l.getD k 0 = m.getD k 0) → decide (l = m) = true) := fun h => by
      refine decide_eq_true (List.ext_getElem hlen fun k h1 h2 => ?_)
      have := h k h1
      rwa [List.getD_eq_getElem?_getD, List.getElem?_eq_getElem h1, List.getD_eq_getElem?_getD, List.getElem?_eq_getElem h2] at this
    generalize decide (l = m) = b at *
    have HU := Lib.hid hu
    have HV := Lib.hid hv
    rw [← hlen] at HV p2 ⊢
    obtain ⟨N, hN⟩ : ∃ N, l.length = N := ⟨_, rfl⟩
    rw [hN] at HU HV p1 p2 HEQ HALL ⊢
    clear hu hv hlen hN
    go_enter Tryz.func50, Tryz.ntmps50
    go_wp2_with fail
    go_loopw [5] (fun i wr => ∃ k : Nat, k ≤ N ∧ i = .int .i64 (k : Int) ∧ (∀ t, t < k → l.getD t 0 = m.getD t 0) ∧ Kp w wr) (fun i _ => (N - (intOf i).toNat))
    case atStart => exact ⟨0, Nat.zero_le _, rfl, fun t h => by omega, Kp.refl _⟩
    case round =>
      obtain ⟨k, hk, rfl, hpre, hkp⟩ := hrel
      by_cases hlt : k < N
      · obtain ⟨g1, o1, rfl, _, hc1⟩ := HU.out.at k hlt
        obtain ⟨g2, o2, rfl, _, hc2⟩ := HV.out.at k hlt
        have h1 := hkp.cell (hc1 k hlt)
        have h2 := hkp.cell (hc2 k hlt)
        have HEQ2 := HEQ.out k hlt
        have HPRE : Hid (l.getD k 0 = m.getD k 0 → ∀ t, t < k + 1 → l.getD t 0 = m.getD t 0) := fun he t ht => by
          rcases Nat.lt_or_eq_of_le (Nat.lt_succ_iff.1 ht) with h3 | h3
          · exact hpre t h3
          · rw [h3]; exact he
        have i1 : IntKind.i64.wrap ((k : Int) + 1) = (k : Int) + 1 := IntWalk.i64_in _ (by omega)
        have KK := Lib.hid hkp
        clear hc1 hc2 HALL HEQ hpre hkp
        generalize l.getD k 0 = X at *
        generalize m.getD k 0 = Y at *
        by_cases hxy : X = Y
        · have HP := Lib.hid (HPRE.out hxy)
          subst hxy
          clear HEQ2 HPRE
          go_wp2_with fail
          go_region
          go_wp2_with fail
          go_roundw
          case rel => exact ⟨k + 1, by omega, by go_num, HP.out, KK.out.drew⟩
          case measure => simp [intOf]; omega
        · have HB := Lib.hid (HEQ2 hxy)
          have hne : ¬ ((X : Nat) : Int) = ((Y : Nat) : Int) := by omega
          have hne2 : (((X : Nat) : Int) == ((Y : Nat) : Int)) = false := beq_eq_false_iff_ne.2 hne
          clear HEQ2 HPRE hxy
          go_wp2_with fail
          go_region
          go_wp2_with fail
          go_ret
          exact ⟨by rw [HB.out] <;> rfl, KK.out.drew⟩
      · obtain rfl : k = N := by omega
        have HB := Lib.hid (HALL.out hpre)
        have KK := Lib.hid hkp
        clear HALL HEQ hpre hkp
        go_wp2_with fail
        go_ret
        exact ⟨by rw [HB.out] <;> rfl, KK.out⟩
  · have e : decide (l = m) = false := decide_eq_false (fun h => hlen (by rw [h]))
    have hne : ¬ (l.length : Int) = (m.length : Int) := by omega
    have hne2 : ((l.length : Int) == (m.length : Int)) = false := beq_eq_false_iff_ne.2 hne
    rw [e]
    clear hu hv e hlen
    go_enter Tryz.func50, Tryz.ntmps50
    go_wp2_with fail
    go_ret
    exact ⟨rfl, Kp.refl _⟩

/-- Is a number in a row? -/
def inL (l : List Nat) (n : Int) : Bool := l.any fun x => decide ((x : Int) = n)
set_option maxHeartbeats 1000000 in
theorem refIn_any (u : Value) (l : List Nat) (n : Int) (w : World) (hu : RN w u l) :
    Calls Tryz.prog 69 #[u, .int .i64 n] w fun e w' => e = .returned (.bool (inL l n)) ∧ w = w' := by
  obtain ⟨a1, c1, rfl, p1, s1⟩ := hu.shape
  unfold maxLen at s1
  have HYES : Hid (∀ k, k < l.length → ((l.getD k 0 : Nat) : Int) = n → inL l n = true) := fun k hk he => by
    unfold inL
    rw [List.any_eq_true]
    rw [List.getD_eq_getElem?_getD, List.getElem?_eq_getElem hk] at he
    exact ⟨l[k], List.getElem_mem hk, decide_eq_true he⟩
  have HNO : Hid ((∀ k, k < l.length → ((l.getD k 0 : Nat) : Int) ≠ n) → inL l n = false) := fun h => by
    rw [Bool.eq_false_iff]
    intro h2
    unfold inL at h2
    rw [List.any_eq_true] at h2
    obtain ⟨x, hx, he⟩ := h2
    obtain ⟨k, hk, rfl⟩ := List.getElem_of_mem hx
    refine h k hk ?_
    rw [List.getD_eq_getElem?_getD, List.getElem?_eq_getElem hk]
    exact of_decide_eq_true he
  generalize inL l n = b at *
  have HU := Lib.hid hu
  obtain ⟨N, hN⟩ : ∃ N, l.length = N := ⟨_, rfl⟩
  rw [hN] at HU p1 HYES HNO ⊢
  clear hu hN
  go_enter Tryz.func69, Tryz.ntmps69
  go_wp2_with fail
  go_loop [5] (fun i => ∃ k : Nat, k ≤ N ∧ i = .int .i64 (k : Int) ∧ (∀ t, t < k → ((l.getD t 0 : Nat) : Int) ≠ n)) (fun i => (N - (intOf i).toNat))
  case atStart => exact ⟨0, Nat.zero_le _, rfl, fun t h => by omega⟩
  case round =>
    obtain ⟨k, hk, rfl, hpre⟩ := hrel
    by_cases hlt : k < N
    · obtain ⟨g1, o1, rfl, _, hc1⟩ := HU.out.at k hlt
      have h1 := hc1 k hlt
      have HY2 := HYES.out k hlt
      have HPRE : Hid (((l.getD k 0 : Nat) : Int) ≠ n → ∀ t, t < k + 1 → ((l.getD t 0 : Nat) : Int) ≠ n) := fun he t ht => by
        rcases Nat.lt_or_eq_of_le (Nat.lt_succ_iff.1 ht) with h3 | h3
        · exact hpre t h3
        · rw [h3]; exact he
      have i1 : IntKind.i64.wrap ((k : Int) + 1) = (k : Int) + 1 := IntWalk.i64_in _ (by omega)
      clear hc1 HYES HNO hpre
      generalize ((l.getD k 0 : Nat) : Int) = X at *
      by_cases hxy : X = n
      · have HB := Lib.hid (HY2 hxy)
        subst hxy
        clear HY2 HPRE
        go_wp2_with fail
        go_ret
        exact ⟨by rw [HB.out] <;> rfl, rfl⟩
      · have HP := Lib.hid (HPRE.out hxy)
        have hne2 : (X == n) = false := beq_eq_false_iff_ne.2 hxy
        clear HY2 HPRE
        go_wp2_with fail
        go_round
        case rel => exact ⟨k + 1, by omega, by go_num, HP.out⟩
        case measure => simp [intOf]; omega
    · obtain rfl : k = N := by omega
      have HB := Lib.hid (HNO.out hpre)
      clear HYES HNO hpre
      go_wp2_with fail
      go_ret
      exact ⟨by rw [HB.out] <;> rfl, rfl⟩
end Go.Proofs.YtobldbodafaajaaGreatDoor

/- pyxref08: Common. -/
set_option linter.unusedVariables false
set_option linter.unusedSimpArgs false
namespace Go.Proofs.YtobldbodafaajaaGreatDoor
open Go.RowKit

/-- The way up to what stands over two leaves. -/
theorem upto8 {K a b : Nat} (hK : K ≤ 10) (ha : a < 2 ^ K) (hb : b < 2 ^ K) (f : Nat → Nat) (hf : f = fun i => nd i (a / 2 ^ i)) :
    f 0 = 2 * a ∧ f (meet a b) = coN a b ∧
    (∀ i, i ≤ meet a b → lev (f i) = i) ∧
    (∀ i, i < meet a b → ¬ (loV ((f i : Nat) : Int) ≤ (b : Int) ∧ (b : Int) ≤ hiV ((f i : Nat) : Int)) ∧ paE ((f i : Nat) : Int) ((2 ^ K : Nat) : Int) = 0 ∧ paV ((f i : Nat) : Int) ((2 ^ K : Nat) : Int) = ((f (i + 1) : Nat) : Int)) ∧
    loV ((f (meet a b) : Nat) : Int) ≤ (b : Int) ∧ (b : Int) ≤ hiV ((f (meet a b) : Nat) : Int) := by
  subst hf
  obtain ⟨m1, m2, m3⟩ := meet_spec hK ha hb
  generalize hM : meet a b = M at *
  have hq : ∀ i, i ≤ K → a / 2 ^ i < 2 ^ (K - i) := fun i hi => by
    have := quot_lt (K := K) (j := 0) (q := a) (i := i) (by simpa using ha) (by omega)
    simpa using this
  have hlv : ∀ i, i ≤ K → (loV ((nd i (a / 2 ^ i) : Nat) : Int) ≤ (b : Int) ∧ (b : Int) ≤ hiV ((nd i (a / 2 ^ i) : Nat) : Int) ↔ b / 2 ^ i = a / 2 ^ i) := fun i hi => by
    obtain ⟨_, h2, h3⟩ := nd_small hK hi (hq i hi)
    obtain ⟨e1, e2⟩ := lv_nd h2 h3
    rw [e1, e2, ← under_iff]
    constructor
    · rintro ⟨h4, h5⟩; exact ⟨by exact_mod_cast h4, by exact_mod_cast h5⟩
    · rintro ⟨h4, h5⟩; exact ⟨by exact_mod_cast h4, by exact_mod_cast h5⟩
  refine ⟨?_, ?_, fun i hi => lev_nd _ _ (by omega), fun i hi => ⟨fun h => ?_, ?_⟩, ?_⟩
  · simp [nd_leaf]
  · unfold coN; rw [hM]
  · exact m3 i hi ((hlv i (by omega)).1 h).symm
  · obtain ⟨e1, e2, _⟩ := pa_yes (K := K) (j := i) (q := a / 2 ^ i) hK (by omega) (hq i (by omega))
    refine ⟨e1, ?_⟩
    show _ = ((nd (i + 1) (a / 2 ^ (i + 1)) : Nat) : Int)
    rw [e2, quot_succ]
  · exact (hlv M m1).2 m2.symm

end Go.Proofs.YtobldbodafaajaaGreatDoor
