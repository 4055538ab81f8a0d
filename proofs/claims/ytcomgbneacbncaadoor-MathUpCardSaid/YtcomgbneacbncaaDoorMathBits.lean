/- Plain: the lowest bits of a node's number; the sizes that a tree may have, told by bits. -/
import Derived.Test.YtcomgbneacbncaaDoorNodeSpec
import Derived.Lib.TrailingZeros
import Derived.Laws.Bits64b
import Derived.WalkKit
set_option linter.unusedVariables false
set_option linter.unusedSimpArgs false
namespace Go.Proofs.YtcomgbneacbncaaDoor
open Go.RowKit

theorem bits_and_i64_nat8 (a b : Nat) (ha : a < 9223372036854775808) (hb : b < 9223372036854775808) : bits .and .i64 (a : Int) (b : Int) = ((a &&& b : Nat) : Int) := by
  have hx : a &&& b < 2 ^ 63 := Nat.and_lt_two_pow _ (by omega)
  have h1 : (BitVec.ofInt 64 (a : Int)).toNat = a := by
    rw [BitVec.ofInt_natCast, BitVec.toNat_ofNat]; exact Nat.mod_eq_of_lt (by omega)
  have h2 : (BitVec.ofInt 64 (b : Int)).toNat = b := by
    rw [BitVec.ofInt_natCast, BitVec.toNat_ofNat]; exact Nat.mod_eq_of_lt (by omega)
  show IntKind.i64.wrap ((BitVec.ofInt 64 (a : Int) &&& BitVec.ofInt 64 (b : Int)).toNat : Int) = _
  rw [BitVec.toNat_and, h1, h2]
  exact IntWalk.i64_in _ (by omega)

theorem ctzFrom8 : ∀ (k m f : Nat), k < f → Lib.ctzFrom f (2 ^ k * (2 * m + 1)) = k
  | 0, m, f, h => by
    obtain ⟨f, rfl⟩ : ∃ g, f = g + 1 := ⟨f - 1, by omega⟩
    unfold Lib.ctzFrom
    rw [if_pos (by simp)]
  | k + 1, m, f, h => by
    obtain ⟨f, rfl⟩ : ∃ g, f = g + 1 := ⟨f - 1, by omega⟩
    have e : 2 ^ (k + 1) * (2 * m + 1) = 2 * (2 ^ k * (2 * m + 1)) := by rw [Nat.pow_succ, Nat.mul_comm (2 ^ k) 2, Nat.mul_assoc]
    unfold Lib.ctzFrom
    rw [e, if_neg (by omega), show 2 * (2 ^ k * (2 * m + 1)) / 2 = 2 ^ k * (2 * m + 1) by omega, ctzFrom8 k m f (by omega)]
    omega
theorem nd_succ8 (j q : Nat) : nd j q + 1 = 2 ^ j * (2 * q + 1) := by
  unfold nd
  have h1 := p2_pos j
  have e : 2 ^ j * (2 * q + 1) = 2 ^ (j + 1) * q + 2 ^ j := by rw [Nat.mul_add, Nat.mul_one, p2_succ, ← Nat.mul_assoc, Nat.mul_comm (2 ^ j) 2]
  rw [e]
  omega
/-- The level, by trailing noughts. -/
theorem ctz_nd (j q : Nat) (hj : j ≤ 10) : Lib.ctz 64 (nd j q + 1) = j := by
  rw [nd_succ8]
  have : 2 ^ j * (2 * q + 1) ≠ 0 := by have := p2_pos j; exact Nat.mul_ne_zero (by omega) (by omega)
  unfold Lib.ctz
  rw [if_neg this]
  exact ctzFrom8 j q 64 (by omega)
/-- The bit that tells a left child from a right one. -/
theorem side_bit (j q : Nat) : nd j q &&& 2 ^ (j + 1) = if q % 2 = 0 then 0 else 2 ^ (j + 1) := by
  have h1 : (nd j q).testBit (j + 1) = decide (q % 2 = 1) := by
    have e : nd j q = (2 ^ j - 1) + 2 ^ (j + 1) * q := by unfold nd; have := p2_pos j; omega
    rw [Nat.testBit_eq_decide_div_mod_eq, e, Nat.add_mul_div_left _ _ (by exact Nat.two_pow_pos _), Nat.div_eq_of_lt (by have := p2_pos j; rw [p2_succ]; omega), Nat.zero_add]
  apply Nat.eq_of_testBit_eq
  intro i
  rw [Nat.testBit_and, Nat.testBit_two_pow]
  by_cases hi : j + 1 = i
  · subst hi
    rw [h1]
    by_cases hq : q % 2 = 0
    · rw [if_pos hq]; simp; omega
    · rw [if_neg hq, Nat.testBit_two_pow]; simp; omega
  · have e : decide (j + 1 = i) = false := decide_eq_false hi
    rw [e, Bool.and_false]
    split
    · simp
    · rw [Nat.testBit_two_pow, e]
theorem up_left (j q : Nat) (h : q % 2 = 0) : nd j q + 2 ^ j = nd (j + 1) (q / 2) := by
  obtain ⟨r, rfl⟩ : ∃ r, q = 2 * r := ⟨q / 2, by omega⟩
  have h1 := nd_left j r
  rw [show 2 * r / 2 = r by omega]
  omega
theorem up_right (j q : Nat) (h : ¬ q % 2 = 0) : nd j q - 2 ^ j = nd (j + 1) (q / 2) ∧ 2 ^ j ≤ nd j q := by
  obtain ⟨r, rfl⟩ : ∃ r, q = 2 * r + 1 := ⟨q / 2, by omega⟩
  have h1 := nd_right j r
  rw [show (2 * r + 1) / 2 = r by omega]
  omega
/-- Of two siblings the one is as far from the parent as the other. -/
theorem sib_sum (j q : Nat) : nd j q + nd j (sq q) = 2 * nd (j + 1) (q / 2) := by
  by_cases h : q % 2 = 0
  · have h1 := up_left j q h
    have h2 := nd_right j (q / 2)
    have e : sq q = 2 * (q / 2) + 1 := by unfold sq; rw [if_pos h]; omega
    rw [e]
    omega
  · obtain ⟨h1, h3⟩ := up_right j q h
    have h2 := nd_left j (q / 2)
    have e : sq q = 2 * (q / 2) := by unfold sq; rw [if_neg h]; omega
    rw [e]
    omega
theorem size_bits : ∀ n : Fin 1025, (decide (1 ≤ n.1) && decide (n.1 &&& (n.1 - 1) = 0)) = (List.range 11).any fun k => decide (n.1 = 2 ^ k) := by decide +kernel
theorem isTB_bits (n : Nat) (h1 : 1 ≤ n) (h2 : n ≤ 1024) : isTB (n : Int) = decide (n &&& (n - 1) = 0) := by
  have h := size_bits ⟨n, by omega⟩
  simp only [h1, decide_true, Bool.true_and] at h
  rw [h]
  unfold isTB
  congr 1
  funext k
  congr 1
  exact propext ⟨fun e => by exact_mod_cast e, fun e => by exact_mod_cast e⟩
theorem isTB_out (n : Int) (h : ¬ (1 ≤ n ∧ n ≤ 1024)) : isTB n = false := by
  rw [Bool.eq_false_iff]
  exact fun e => h (isTB_bounds e)
end Go.Proofs.YtcomgbneacbncaaDoor
