/- Contracts of byt.Num, TakeNum. -/
import Derived.Test.YtfnkcdcbjcoefaaNum
import Derived.Test.YtfnkcdcbjcoefaaPlain
set_option linter.unusedVariables false
set_option linter.unusedSimpArgs false
namespace Go.Proofs.Ytfnkcdcbjcoefaa
open Go.RowKit

theorem isWidth_any (x : Int) (w : World) :
    Calls Try.prog 43 #[.int .i64 x] w fun e w' => e = .returned (.bool (decide (1 ≤ x ∧ x ≤ 7))) ∧ w = w' := by
  by_cases h1 : 1 ≤ x
  · have e : decide (1 ≤ x ∧ x ≤ 7) = decide (x ≤ 7) := by simp [h1]
    rw [e]
    go_enter Try.func43, Try.ntmps43
    go_wp2
    go_ret
    exact ⟨rfl, rfl⟩
  · have e : decide (1 ≤ x ∧ x ≤ 7) = false := by simp [h1]
    go_enter Try.func43, Try.ntmps43
    go_wp2
    go_ret
    exact ⟨by simp, rfl⟩

theorem pow8 (k : Nat) : (2 : Int) ^ (8 * k) = ((256 ^ k : Nat) : Int) := by
  rw [Nat.pow_mul' 2 8 k |> fun _ => show (256 : Nat) ^ k = 2 ^ (8 * k) from by rw [Nat.pow_mul]]
  push_cast; rfl
theorem pow256 (n k : Nat) : (n : Int) < 256 ^ (k : Int).toNat ↔ n < 256 ^ k := by
  rw [Int.toNat_natCast, ← Int.ofNat_lt, Int.natCast_pow]; rfl
theorem shr_zero (n k : Nat) (h : n < 256 ^ k) : ((n : Int) / 2 ^ (8 * k) != 0) = false := by
  rw [pow8, ← Int.natCast_ediv, Nat.div_eq_of_lt h]; rfl
theorem shr_pos (n k : Nat) (h : ¬ n < 256 ^ k) : ((n : Int) / 2 ^ (8 * k) != 0) = true := by
  rw [pow8, ← Int.natCast_ediv, bne_iff_ne]
  have : 0 < n / 256 ^ k := Nat.div_pos (by omega) (Nat.pos_of_ne_zero (by simp))
  omega

set_option maxHeartbeats 400000 in
theorem num_any (n k : Int) (w : World) (hn : -9223372036854775808 ≤ n ∧ n ≤ 9223372036854775807) :
    Calls Try.prog 34 #[.int .i64 n, .int .i64 k] w fun e w' => ∃ v, e = .returned (.tuple #[v, .int .i64 (numE n k)]) ∧ Ow 5 w' w.heap.size v (numB n k) ∧ Kp w w' := by
  by_cases h1 : 1 ≤ k ∧ k ≤ 7
  · have d1 : decide (1 ≤ k ∧ k ≤ 7) = true := by simp [h1]
    obtain ⟨k1, k7⟩ := h1
    by_cases h2 : n < 0
    · obtain ⟨e1, e2⟩ := num_no (n := n) (w := k) (by unfold numOk; omega)
      rw [e1, e2]
      have d2 : decide (n < 0) = true := by simp [h2]
      go_enter Try.func34, Try.ntmps34
      go_wp2_with (go_at_call 43; refine (isWidth_any _ _).mono ?_; rintro e w' ⟨rfl, rfl⟩)
      go_ret2
      exact ⟨_, rfl, Ow.nil _ _ _, Kp.refl _⟩
    · obtain ⟨n, rfl⟩ := Int.eq_ofNat_of_zero_le (show 0 ≤ n by omega)
      obtain ⟨k, rfl⟩ := Int.eq_ofNat_of_zero_le (show 0 ≤ k by omega)
      have d2 : decide ((n : Int) < 0) = false := by simp
      by_cases h3 : n < 256 ^ k
      · obtain ⟨e1, e2⟩ := num_yes (n := n) (w := k) ⟨k1, k7, by omega, (pow256 n k).2 h3⟩
        have E1 := Lib.hid e1
        have E2 := Lib.hid e2
        have d3 := shr_zero n k h3
        clear e1 e2 h3
        go_enter Try.func34, Try.ntmps34
        go_wp2_with (first | (go_at_call 43; refine (isWidth_any _ _).mono ?_; rintro e w' ⟨rfl, rfl⟩) | (go_at_call 44; refine (highestFirst_any _ _ _ (by omega) (by omega) (by omega)).mono ?_; rintro e w' ⟨v, rfl, ho, hk⟩))
        go_ret2
        rw [E1.out, E2.out]
        exact ⟨_, rfl, by simpa using ho, hk⟩
      · obtain ⟨e1, e2⟩ := num_no (n := n) (w := k) (fun h => h3 ((pow256 n k).1 h.2.2.2))
        rw [e1, e2]
        have d3 := shr_pos n k h3
        clear e1 e2 h3
        go_enter Try.func34, Try.ntmps34
        go_wp2_with (first | (go_at_call 43; refine (isWidth_any _ _).mono ?_; rintro e w' ⟨rfl, rfl⟩))
        go_ret2
        exact ⟨_, rfl, Ow.nil _ _ _, Kp.refl _⟩
  · have d1 : decide (1 ≤ k ∧ k ≤ 7) = false := by simp [h1]
    obtain ⟨e1, e2⟩ := num_no (n := n) (w := k) (by unfold numOk; omega)
    rw [e1, e2]
    go_enter Try.func34, Try.ntmps34
    go_wp2_with (go_at_call 43; refine (isWidth_any _ _).mono ?_; rintro e w' ⟨rfl, rfl⟩)
    go_ret2
    exact ⟨_, rfl, Ow.nil _ _ _, Kp.refl _⟩

end Go.Proofs.Ytfnkcdcbjcoefaa
