import Derived.Test.YtigpgcjbpoaclaaGreatDoorB3
import Derived.Lib.TrailingZeros
import Derived.Laws.Bits64b
import Derived.WalkKit
set_option linter.unusedVariables false
set_option linter.unusedSimpArgs false
namespace Go.Proofs.YtigpgcjbpoaclaaGreatDoor
open Go.RowKit
def isTB (n : Int) : Bool := (List.range 11).any fun k => decide (n = ((2 ^ k : Nat) : Int))
theorem isTB_yes (K : Nat) (h : K ≤ 10) : isTB ((2 ^ K : Nat) : Int) = true := by
  unfold isTB
  rw [List.any_eq_true]
  exact ⟨K, by simp; omega, by simp⟩
theorem isTB_iff (n : Int) : isTB n = true ↔ ∃ K, K ≤ 10 ∧ n = ((2 ^ K : Nat) : Int) := by
  constructor
  · intro h
    unfold isTB at h
    rw [List.any_eq_true] at h
    obtain ⟨K, h1, h2⟩ := h
    exact ⟨K, by simp at h1; omega, of_decide_eq_true h2⟩
  · rintro ⟨K, h, rfl⟩
    exact isTB_yes K h
theorem isTB_bounds {n : Int} (h : isTB n = true) : 1 ≤ n ∧ n ≤ 1024 := by
  obtain ⟨K, hK, rfl⟩ := (isTB_iff n).1 h
  have h1 : (2 : Nat) ^ K ≤ 2 ^ 10 := Nat.pow_le_pow_right (by omega) hK
  have h2 := p2_pos K
  generalize 2 ^ K = M at *
  omega
def inB (x n : Int) : Bool := isTB n && (decide (0 ≤ x) && decide (x < 2 * n - 1))
theorem inB_iff (x n : Int) : inB x n = true ↔ ∃ K j q, K ≤ 10 ∧ n = ((2 ^ K : Nat) : Int) ∧ x = ((nd j q : Nat) : Int) ∧ j ≤ K ∧ q < 2 ^ (K - j) := by
  unfold inB
  simp only [Bool.and_eq_true, decide_eq_true_eq]
  constructor
  · rintro ⟨h1, h2, h3⟩
    obtain ⟨K, hK, rfl⟩ := (isTB_iff n).1 h1
    obtain ⟨y, rfl⟩ := Int.eq_ofNat_of_zero_le h2
    obtain ⟨j, q, e, hj, hq⟩ := nd_of K y (by rw [p2_succ]; omega)
    exact ⟨K, j, q, hK, rfl, by rw [e], hj, hq⟩
  · rintro ⟨K, j, q, hK, rfl, rfl, hj, hq⟩
    have h := nd_lt hj hq
    rw [p2_succ] at h
    exact ⟨isTB_yes K hK, by omega, by omega⟩
theorem small_iff (x : Int) : (0 ≤ x ∧ x ≤ 2046) ↔ ∃ j q, x = ((nd j q : Nat) : Int) ∧ j ≤ 10 ∧ q < 2 ^ (10 - j) := by
  constructor
  · rintro ⟨h1, h2⟩
    obtain ⟨y, rfl⟩ := Int.eq_ofNat_of_zero_le h1
    obtain ⟨j, q, e, hj, hq⟩ := nd_of 10 y (by omega)
    exact ⟨j, q, by rw [e], hj, hq⟩
  · rintro ⟨j, q, rfl, hj, hq⟩
    have h := nd_lt hj hq
    omega
theorem p2_le {K : Nat} (h : K ≤ 10) : 2 ^ K ≤ 1024 := by
  have : (2 : Nat) ^ K ≤ 2 ^ 10 := Nat.pow_le_pow_right (by omega) h
  omega
theorem nd_small {K j q : Nat} (hK : K ≤ 10) (hj : j ≤ K) (hq : q < 2 ^ (K - j)) : nd j q ≤ 2046 ∧ j ≤ 10 ∧ q < 2 ^ (10 - j) := by
  have h := nd_lt hj hq
  have h2 := p2_le hK
  rw [p2_succ] at h
  refine ⟨by omega, by omega, Nat.lt_of_lt_of_le hq (Nat.pow_le_pow_right (by omega) (by omega))⟩
def qOf (x : Nat) : Nat := x / 2 ^ (lev x + 1)
theorem qOf_nd (j q : Nat) (h : j ≤ 11) : qOf (nd j q) = q := by
  unfold qOf
  rw [lev_nd j q h]
  unfold nd
  have h1 := p2_pos j
  have h2 := p2_succ j
  have e : 2 ^ (j + 1) * q + 2 ^ j - 1 = (2 ^ j - 1) + 2 ^ (j + 1) * q := by omega
  rw [e, Nat.add_mul_div_left _ _ (by omega), Nat.div_eq_of_lt (by omega), Nat.zero_add]
def lgN (n : Int) : Nat := n.toNat.log2
theorem lgN_pow : ∀ K, K ≤ 10 → lgN ((2 ^ K : Nat) : Int) = K := by
  intro K h
  unfold lgN
  rw [Int.toNat_natCast]
  have : ∀ K : Fin 11, (2 ^ K.1).log2 = K.1 := by decide
  exact this ⟨K, by omega⟩
def widE (n : Int) : Int := if isTB n then 0 else 1
def widV (n : Int) : Int := if isTB n then 2 * n - 1 else 0
def okN (x : Int) : Prop := 0 ≤ x ∧ x ≤ 2046
instance (x : Int) : Decidable (okN x) := by unfold okN; infer_instance
def levV (x : Int) : Int := if okN x then (lev x.toNat : Int) else 0
def chE (x : Int) : Int := if levV x = 0 then 1 else 0
def lefV (x : Int) : Int := if levV x = 0 then 0 else x - ((2 ^ ((levV x).toNat - 1) : Nat) : Int)
def rigV (x : Int) : Int := if levV x = 0 then 0 else x + ((2 ^ ((levV x).toNat - 1) : Nat) : Int)
theorem levV_nd {j q : Nat} (hj : j ≤ 10) (hq : q < 2 ^ (10 - j)) : levV ((nd j q : Nat) : Int) = (j : Int) := by
  unfold levV
  rw [if_pos (show okN ((nd j q : Nat) : Int) from (small_iff _).2 ⟨j, q, rfl, hj, hq⟩), Int.toNat_natCast, lev_nd j q (by omega)]
theorem levV_no {x : Int} (h : ¬ okN x) : levV x = 0 := if_neg h
theorem ch_leaf {q : Nat} (hq : q < 2 ^ 10) : chE ((nd 0 q : Nat) : Int) = 1 ∧ lefV ((nd 0 q : Nat) : Int) = 0 ∧ rigV ((nd 0 q : Nat) : Int) = 0 := by
  have e : levV ((nd 0 q : Nat) : Int) = 0 := levV_nd (by omega) hq
  unfold chE lefV rigV
  rw [e]
  exact ⟨rfl, rfl, rfl⟩
theorem ch_yes {j q : Nat} (hj : j + 1 ≤ 10) (hq : q < 2 ^ (10 - (j + 1))) : chE ((nd (j + 1) q : Nat) : Int) = 0 ∧ lefV ((nd (j + 1) q : Nat) : Int) = ((nd j (2 * q) : Nat) : Int) ∧ rigV ((nd (j + 1) q : Nat) : Int) = ((nd j (2 * q + 1) : Nat) : Int) := by
  have e := levV_nd hj hq
  have e0 : ¬ (((j + 1 : Nat) : Int) = 0) := by omega
  unfold chE lefV rigV
  rw [e, if_neg e0, if_neg e0, if_neg e0, Int.toNat_natCast, Nat.add_sub_cancel]
  obtain ⟨h1, h2⟩ := nd_left j q
  have h3 := nd_right j q
  exact ⟨rfl, by omega, by omega⟩
def parN (x : Nat) : Nat := nd (lev x + 1) (qOf x / 2)
def sibN (x : Nat) : Nat := nd (lev x) (sq (qOf x))
def paE (x n : Int) : Int := if inB x n then (if x = n - 1 then 11 else 0) else 1
def paV (x n : Int) : Int := if paE x n = 0 then (parN x.toNat : Int) else 0
def siV (x n : Int) : Int := if paE x n = 0 then (sibN x.toNat : Int) else 0
theorem pa_no {x n : Int} (h : ¬ inB x n = true) : paE x n = 1 ∧ paV x n = 0 ∧ siV x n = 0 := by
  have e : paE x n = 1 := if_neg h
  unfold paV siV
  rw [e]
  exact ⟨rfl, rfl, rfl⟩
theorem pa_root {K : Nat} (hK : K ≤ 10) : paE ((nd K 0 : Nat) : Int) ((2 ^ K : Nat) : Int) = 11 ∧ paV ((nd K 0 : Nat) : Int) ((2 ^ K : Nat) : Int) = 0 ∧ siV ((nd K 0 : Nat) : Int) ((2 ^ K : Nat) : Int) = 0 := by
  have h1 := nd_root K
  have h2 := p2_pos K
  have e : paE ((nd K 0 : Nat) : Int) ((2 ^ K : Nat) : Int) = 11 := by
    unfold paE
    rw [if_pos ((inB_iff _ _).2 ⟨K, K, 0, hK, rfl, rfl, Nat.le_refl _, by simp⟩), if_pos (by omega)]
  unfold paV siV
  rw [e]
  exact ⟨rfl, rfl, rfl⟩
theorem pa_yes {K j q : Nat} (hK : K ≤ 10) (hj : j < K) (hq : q < 2 ^ (K - j)) :
    paE ((nd j q : Nat) : Int) ((2 ^ K : Nat) : Int) = 0 ∧ paV ((nd j q : Nat) : Int) ((2 ^ K : Nat) : Int) = ((nd (j + 1) (q / 2) : Nat) : Int) ∧ siV ((nd j q : Nat) : Int) ((2 ^ K : Nat) : Int) = ((nd j (sq q) : Nat) : Int) := by
  have h2 := p2_pos K
  have h3 := nd_is_root hq (by omega)
  have e : paE ((nd j q : Nat) : Int) ((2 ^ K : Nat) : Int) = 0 := by
    unfold paE
    rw [if_pos ((inB_iff _ _).2 ⟨K, j, q, hK, rfl, rfl, by omega, hq⟩), if_neg]
    intro h
    have := h3.1 (by omega)
    omega
  unfold paV siV parN sibN
  rw [e, if_pos rfl, if_pos rfl, Int.toNat_natCast, lev_nd j q (by omega), qOf_nd j q (by omega)]
  exact ⟨rfl, rfl, rfl⟩
def okC (a b n : Int) : Prop := isTB n = true ∧ 0 ≤ a ∧ 0 ≤ b ∧ a < n ∧ b < n
instance (a b n : Int) : Decidable (okC a b n) := by unfold okC; infer_instance
theorem bits_and_i64_nat8 (a b : Nat) (ha : a < 9223372036854775808) (hb : b < 9223372036854775808) : bits .and .i64 (a : Int) (b : Int) = ((a &&& b : Nat) : Int) := by
  have hx : a &&& b < 2 ^ 63 := Nat.and_lt_two_pow _ (by omega)
  have h1 : (BitVec.ofInt 64 (a : Int)).toNat = a := by
    rw [BitVec.ofInt_natCast, BitVec.toNat_ofNat]; exact Nat.mod_eq_of_lt (by omega)
  have h2 : (BitVec.ofInt 64 (b : Int)).toNat = b := by
    rw [BitVec.ofInt_natCast, BitVec.toNat_ofNat]; exact Nat.mod_eq_of_lt (by omega)
  show IntKind.i64.wrap ((BitVec.ofInt 64 (a : Int) &&& BitVec.ofInt 64 (b : Int)).toNat : Int) = _
  rw [BitVec.toNat_and, h1, h2]
  exact IntWalk.i64_in _ (by omega)
theorem ctzFrom8 : ∀ (k m f : Nat), k < f → Lib.ctzFrom f (2 ^ k * (2 * m + 1)) = k
  | 0, m, f, h => by
    obtain ⟨f, rfl⟩ : ∃ g, f = g + 1 := ⟨f - 1, by omega⟩
    unfold Lib.ctzFrom
    rw [if_pos (by simp)]
  | k + 1, m, f, h => by
    obtain ⟨f, rfl⟩ : ∃ g, f = g + 1 := ⟨f - 1, by omega⟩
    have e : 2 ^ (k + 1) * (2 * m + 1) = 2 * (2 ^ k * (2 * m + 1)) := by rw [Nat.pow_succ, Nat.mul_comm (2 ^ k) 2, Nat.mul_assoc]
    unfold Lib.ctzFrom
    rw [e, if_neg (by omega), show 2 * (2 ^ k * (2 * m + 1)) / 2 = 2 ^ k * (2 * m + 1) by omega, ctzFrom8 k m f (by omega)]
    omega
theorem nd_succ8 (j q : Nat) : nd j q + 1 = 2 ^ j * (2 * q + 1) := by
  unfold nd
  have h1 := p2_pos j
  have e : 2 ^ j * (2 * q + 1) = 2 ^ (j + 1) * q + 2 ^ j := by rw [Nat.mul_add, Nat.mul_one, p2_succ, ← Nat.mul_assoc, Nat.mul_comm (2 ^ j) 2]
  rw [e]
  omega
theorem ctz_nd (j q : Nat) (hj : j ≤ 10) : Lib.ctz 64 (nd j q + 1) = j := by
  rw [nd_succ8]
  have : 2 ^ j * (2 * q + 1) ≠ 0 := by have := p2_pos j; exact Nat.mul_ne_zero (by omega) (by omega)
  unfold Lib.ctz
  rw [if_neg this]
  exact ctzFrom8 j q 64 (by omega)
theorem side_bit (j q : Nat) : nd j q &&& 2 ^ (j + 1) = if q % 2 = 0 then 0 else 2 ^ (j + 1) := by
  have h1 : (nd j q).testBit (j + 1) = decide (q % 2 = 1) := by
    have e : nd j q = (2 ^ j - 1) + 2 ^ (j + 1) * q := by unfold nd; have := p2_pos j; omega
    rw [Nat.testBit_eq_decide_div_mod_eq, e, Nat.add_mul_div_left _ _ (by exact Nat.two_pow_pos _), Nat.div_eq_of_lt (by have := p2_pos j; rw [p2_succ]; omega), Nat.zero_add]
  apply Nat.eq_of_testBit_eq
  intro i
  rw [Nat.testBit_and, Nat.testBit_two_pow]
  by_cases hi : j + 1 = i
  · subst hi
    rw [h1]
    by_cases hq : q % 2 = 0
    · rw [if_pos hq]; simp; omega
    · rw [if_neg hq, Nat.testBit_two_pow]; simp; omega
  · have e : decide (j + 1 = i) = false := decide_eq_false hi
    rw [e, Bool.and_false]
    split
    · simp
    · rw [Nat.testBit_two_pow, e]
theorem up_left (j q : Nat) (h : q % 2 = 0) : nd j q + 2 ^ j = nd (j + 1) (q / 2) := by
  obtain ⟨r, rfl⟩ : ∃ r, q = 2 * r := ⟨q / 2, by omega⟩
  have h1 := nd_left j r
  rw [show 2 * r / 2 = r by omega]
  omega
theorem up_right (j q : Nat) (h : ¬ q % 2 = 0) : nd j q - 2 ^ j = nd (j + 1) (q / 2) ∧ 2 ^ j ≤ nd j q := by
  obtain ⟨r, rfl⟩ : ∃ r, q = 2 * r + 1 := ⟨q / 2, by omega⟩
  have h1 := nd_right j r
  rw [show (2 * r + 1) / 2 = r by omega]
  omega
theorem size_bits : ∀ n : Fin 1025, (decide (1 ≤ n.1) && decide (n.1 &&& (n.1 - 1) = 0)) = (List.range 11).any fun k => decide (n.1 = 2 ^ k) := by decide +kernel
theorem isTB_bits (n : Nat) (h1 : 1 ≤ n) (h2 : n ≤ 1024) : isTB (n : Int) = decide (n &&& (n - 1) = 0) := by
  have h := size_bits ⟨n, by omega⟩
  simp only [h1, decide_true, Bool.true_and] at h
  rw [h]
  unfold isTB
  congr 1
  funext k
  congr 1
  exact propext ⟨fun e => by exact_mod_cast e, fun e => by exact_mod_cast e⟩
theorem isTB_out (n : Int) (h : ¬ (1 ≤ n ∧ n ≤ 1024)) : isTB n = false := by
  rw [Bool.eq_false_iff]
  exact fun e => h (isTB_bounds e)
end Go.Proofs.YtigpgcjbpoaclaaGreatDoor
