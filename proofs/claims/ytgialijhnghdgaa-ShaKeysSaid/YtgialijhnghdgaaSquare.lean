/- pyxlaw02.square (written by gen/square.py). -/
import Derived.Test.YtgialijhnghdgaaPow
set_option linter.unusedVariables false
set_option linter.unusedSimpArgs false
namespace Go.Proofs.Ytgialijhnghdgaa
open Go.RowKit

set_option maxRecDepth 100000 in
set_option maxHeartbeats 4000000 in
theorem square_any (v t p : Nat) (w : World) (hv : v ≤ 8) (ht : t ≤ 4294967296) :
    Calls Try.prog 24 #[.int .i64 v, .int .i64 t, .int .i64 p] w fun e w' => e = .returned (.bool (squareB v t p)) ∧ w = w' := by
  have hS : squareB v t p = (decide ((v * v + (2 * v * t + (t / 65536 * (t / 65536) + 2 * (t / 65536) * (t % 65536) / 65536 + (2 * (t / 65536) * (t % 65536) % 65536 * 65536 + t % 65536 * (t % 65536)) / 4294967296)) / 4294967296) < p) || (decide ((v * v + (2 * v * t + (t / 65536 * (t / 65536) + 2 * (t / 65536) * (t % 65536) / 65536 + (2 * (t / 65536) * (t % 65536) % 65536 * 65536 + t % 65536 * (t % 65536)) / 4294967296)) / 4294967296) = p) && decide ((2 * v * t + (t / 65536 * (t / 65536) + 2 * (t / 65536) * (t % 65536) / 65536 + (2 * (t / 65536) * (t % 65536) % 65536 * 65536 + t % 65536 * (t % 65536)) / 4294967296)) % 4294967296 = 0) && decide ((2 * (t / 65536) * (t % 65536) % 65536 * 65536 + t % 65536 * (t % 65536)) % 4294967296 = 0))) := rfl
  obtain ⟨A1, h1⟩ : ∃ A1, 2 * v = A1 := ⟨_, rfl⟩
  rw [h1] at hS
  have b1 : A1 ≤ 16 := by omega
  have e1 : True → (2 : Int) * (v : Int) = (A1 : Int) := fun _ => by omega
  have w1 : True → IntKind.i64.wrap (A1 : Int) = (A1 : Int) := fun _ => by rw [IntKind.wrap_i64]; omega
  obtain ⟨A2, h2⟩ : ∃ A2, A1 * t = A2 := ⟨_, rfl⟩
  rw [h2] at hS
  have b2 : A2 ≤ 68719476736 := by rw [← h2]; exact Nat.le_trans (Nat.mul_le_mul (show A1 ≤ 16 by omega) (show t ≤ 4294967296 by omega)) (by decide)
  have e2 : True → (A1 : Int) * (t : Int) = (A2 : Int) := fun _ => by rw [← h2]; simp
  have w2 : True → IntKind.i64.wrap (A2 : Int) = (A2 : Int) := fun _ => by rw [IntKind.wrap_i64]; omega
  obtain ⟨A3, h3⟩ : ∃ A3, t / 65536 = A3 := ⟨_, rfl⟩
  rw [h3] at hS
  have b3 : A3 ≤ 65536 := by omega
  have e3 : True → (t : Int) / 65536 = (A3 : Int) := fun _ => by omega
  have w3 : True → IntKind.i64.wrap (A3 : Int) = (A3 : Int) := fun _ => by rw [IntKind.wrap_i64]; omega
  obtain ⟨A4, h4⟩ : ∃ A4, t % 65536 = A4 := ⟨_, rfl⟩
  rw [h4] at hS
  have b4 : A4 ≤ 65535 := by omega
  have e4 : True → (t : Int) % 65536 = (A4 : Int) := fun _ => by omega
  have w4 : True → IntKind.i64.wrap (A4 : Int) = (A4 : Int) := fun _ => by rw [IntKind.wrap_i64]; omega
  obtain ⟨A5, h5⟩ : ∃ A5, A3 * A3 = A5 := ⟨_, rfl⟩
  rw [h5] at hS
  have b5 : A5 ≤ 4294967296 := by rw [← h5]; exact Nat.le_trans (Nat.mul_le_mul (show A3 ≤ 65536 by omega) (show A3 ≤ 65536 by omega)) (by decide)
  have e5 : True → (A3 : Int) * (A3 : Int) = (A5 : Int) := fun _ => by rw [← h5]; simp
  have w5 : True → IntKind.i64.wrap (A5 : Int) = (A5 : Int) := fun _ => by rw [IntKind.wrap_i64]; omega
  obtain ⟨A6, h6⟩ : ∃ A6, 2 * A3 = A6 := ⟨_, rfl⟩
  rw [h6] at hS
  have b6 : A6 ≤ 131072 := by omega
  have e6 : True → (2 : Int) * (A3 : Int) = (A6 : Int) := fun _ => by omega
  have w6 : True → IntKind.i64.wrap (A6 : Int) = (A6 : Int) := fun _ => by rw [IntKind.wrap_i64]; omega
  obtain ⟨A7, h7⟩ : ∃ A7, A6 * A4 = A7 := ⟨_, rfl⟩
  rw [h7] at hS
  have b7 : A7 ≤ 8589934592 := by rw [← h7]; exact Nat.le_trans (Nat.mul_le_mul (show A6 ≤ 131072 by omega) (show A4 ≤ 65535 by omega)) (by decide)
  have e7 : True → (A6 : Int) * (A4 : Int) = (A7 : Int) := fun _ => by rw [← h7]; simp
  have w7 : True → IntKind.i64.wrap (A7 : Int) = (A7 : Int) := fun _ => by rw [IntKind.wrap_i64]; omega
  obtain ⟨A8, h8⟩ : ∃ A8, A7 / 65536 = A8 := ⟨_, rfl⟩
  rw [h8] at hS
  have b8 : A8 ≤ 131072 := by omega
  have e8 : True → (A7 : Int) / 65536 = (A8 : Int) := fun _ => by omega
  have w8 : True → IntKind.i64.wrap (A8 : Int) = (A8 : Int) := fun _ => by rw [IntKind.wrap_i64]; omega
  obtain ⟨A9, h9⟩ : ∃ A9, A5 + A8 = A9 := ⟨_, rfl⟩
  rw [h9] at hS
  have b9 : A9 ≤ 4295098368 := by omega
  have e9 : True → (A5 : Int) + (A8 : Int) = (A9 : Int) := fun _ => by omega
  have w9 : True → IntKind.i64.wrap (A9 : Int) = (A9 : Int) := fun _ => by rw [IntKind.wrap_i64]; omega
  obtain ⟨A10, h10⟩ : ∃ A10, A7 % 65536 = A10 := ⟨_, rfl⟩
  rw [h10] at hS
  have b10 : A10 ≤ 65535 := by omega
  have e10 : True → (A7 : Int) % 65536 = (A10 : Int) := fun _ => by omega
  have w10 : True → IntKind.i64.wrap (A10 : Int) = (A10 : Int) := fun _ => by rw [IntKind.wrap_i64]; omega
  obtain ⟨A11, h11⟩ : ∃ A11, A10 * 65536 = A11 := ⟨_, rfl⟩
  rw [h11] at hS
  have b11 : A11 ≤ 4294967296 := by omega
  have e11 : True → (A10 : Int) * 65536 = (A11 : Int) := fun _ => by omega
  have w11 : True → IntKind.i64.wrap (A11 : Int) = (A11 : Int) := fun _ => by rw [IntKind.wrap_i64]; omega
  obtain ⟨A12, h12⟩ : ∃ A12, A4 * A4 = A12 := ⟨_, rfl⟩
  rw [h12] at hS
  have b12 : A12 ≤ 4294967296 := by rw [← h12]; exact Nat.le_trans (Nat.mul_le_mul (show A4 ≤ 65535 by omega) (show A4 ≤ 65535 by omega)) (by decide)
  have e12 : True → (A4 : Int) * (A4 : Int) = (A12 : Int) := fun _ => by rw [← h12]; simp
  have w12 : True → IntKind.i64.wrap (A12 : Int) = (A12 : Int) := fun _ => by rw [IntKind.wrap_i64]; omega
  obtain ⟨A13, h13⟩ : ∃ A13, A11 + A12 = A13 := ⟨_, rfl⟩
  rw [h13] at hS
  have b13 : A13 ≤ 8589934592 := by omega
  have e13 : True → (A11 : Int) + (A12 : Int) = (A13 : Int) := fun _ => by omega
  have w13 : True → IntKind.i64.wrap (A13 : Int) = (A13 : Int) := fun _ => by rw [IntKind.wrap_i64]; omega
  obtain ⟨A14, h14⟩ : ∃ A14, A13 / 4294967296 = A14 := ⟨_, rfl⟩
  rw [h14] at hS
  have b14 : A14 ≤ 2 := by omega
  have e14 : True → (A13 : Int) / 4294967296 = (A14 : Int) := fun _ => by omega
  have w14 : True → IntKind.i64.wrap (A14 : Int) = (A14 : Int) := fun _ => by rw [IntKind.wrap_i64]; omega
  obtain ⟨A15, h15⟩ : ∃ A15, A9 + A14 = A15 := ⟨_, rfl⟩
  rw [h15] at hS
  have b15 : A15 ≤ 4295098370 := by omega
  have e15 : True → (A9 : Int) + (A14 : Int) = (A15 : Int) := fun _ => by omega
  have w15 : True → IntKind.i64.wrap (A15 : Int) = (A15 : Int) := fun _ => by rw [IntKind.wrap_i64]; omega
  obtain ⟨A16, h16⟩ : ∃ A16, A13 % 4294967296 = A16 := ⟨_, rfl⟩
  rw [h16] at hS
  have b16 : A16 ≤ 4294967295 := by omega
  have e16 : True → (A13 : Int) % 4294967296 = (A16 : Int) := fun _ => by omega
  have w16 : True → IntKind.i64.wrap (A16 : Int) = (A16 : Int) := fun _ => by rw [IntKind.wrap_i64]; omega
  obtain ⟨A17, h17⟩ : ∃ A17, A2 + A15 = A17 := ⟨_, rfl⟩
  rw [h17] at hS
  have b17 : A17 ≤ 80000000000 := by omega
  have e17 : True → (A2 : Int) + (A15 : Int) = (A17 : Int) := fun _ => by omega
  have w17 : True → IntKind.i64.wrap (A17 : Int) = (A17 : Int) := fun _ => by rw [IntKind.wrap_i64]; omega
  obtain ⟨A18, h18⟩ : ∃ A18, v * v = A18 := ⟨_, rfl⟩
  rw [h18] at hS
  have b18 : A18 ≤ 64 := by rw [← h18]; exact Nat.le_trans (Nat.mul_le_mul (show v ≤ 8 by omega) (show v ≤ 8 by omega)) (by decide)
  have e18 : True → (v : Int) * (v : Int) = (A18 : Int) := fun _ => by rw [← h18]; simp
  have w18 : True → IntKind.i64.wrap (A18 : Int) = (A18 : Int) := fun _ => by rw [IntKind.wrap_i64]; omega
  obtain ⟨A19, h19⟩ : ∃ A19, A17 / 4294967296 = A19 := ⟨_, rfl⟩
  rw [h19] at hS
  have b19 : A19 ≤ 20 := by omega
  have e19 : True → (A17 : Int) / 4294967296 = (A19 : Int) := fun _ => by omega
  have w19 : True → IntKind.i64.wrap (A19 : Int) = (A19 : Int) := fun _ => by rw [IntKind.wrap_i64]; omega
  obtain ⟨A20, h20⟩ : ∃ A20, A18 + A19 = A20 := ⟨_, rfl⟩
  rw [h20] at hS
  have b20 : A20 ≤ 84 := by omega
  have e20 : True → (A18 : Int) + (A19 : Int) = (A20 : Int) := fun _ => by omega
  have w20 : True → IntKind.i64.wrap (A20 : Int) = (A20 : Int) := fun _ => by rw [IntKind.wrap_i64]; omega
  obtain ⟨A21, h21⟩ : ∃ A21, A17 % 4294967296 = A21 := ⟨_, rfl⟩
  rw [h21] at hS
  have b21 : A21 ≤ 4294967295 := by omega
  have e21 : True → (A17 : Int) % 4294967296 = (A21 : Int) := fun _ => by omega
  have w21 : True → IntKind.i64.wrap (A21 : Int) = (A21 : Int) := fun _ => by rw [IntKind.wrap_i64]; omega
  obtain ⟨B, hB⟩ : ∃ B, squareB v t p = B := ⟨_, rfl⟩
  rw [hB] at hS ⊢
  have HS := Lib.hid hS
  clear hS hB h1 h2 h3 h4 h5 h6 h7 h8 h9 h10 h11 h12 h13 h14 h15 h16 h17 h18 h19 h20 h21
  clear hv b1 b2 b3 b4 b5 b6 b8 b9 b10 b11 b12 b14 b15 b16 b18 b19 b20 b21
  by_cases c1 : A20 < p
  · have d1 : decide ((A20 : Int) < (p : Int)) = true := decide_eq_true (Int.ofNat_lt.2 c1)
    have hB : B = true := by rw [HS.out, decide_eq_true c1]; rfl
    have d1n : decide (A20 < p) = true := decide_eq_true c1
    subst hB
    go_enter Try.func24, Try.ntmps24
    go_wp2_with fail
    go_ret
    exact ⟨rfl, rfl⟩
  · have d1 : decide ((A20 : Int) < (p : Int)) = false := decide_eq_false (fun h => c1 (Int.ofNat_lt.1 h))
    rw [decide_eq_false c1, Bool.false_or] at HS
    have d1n : decide (A20 < p) = false := decide_eq_false c1
    have c1n : p ≤ A20 := Nat.le_of_not_lt c1
    clear c1
    by_cases c2 : A20 = p
    · have d2 : ((A20 : Int) == (p : Int)) = true := by rw [c2]; exact beq_self_eq_true _
      rw [decide_eq_true c2, Bool.true_and] at HS
      subst c2
      clear d1 d1n c1n d2
      by_cases c3 : A21 = 0
      · have d3 : ((A21 : Int) == 0) = true := by rw [c3]; rfl
        rw [decide_eq_true c3, Bool.true_and] at HS
        by_cases c4 : A16 = 0
        · have d4 : ((A16 : Int) == 0) = true := by rw [c4]; rfl
          have hB : B = true := by rw [HS.out, decide_eq_true c4]
          subst hB
          go_enter Try.func24, Try.ntmps24
          go_wp2_with fail
          go_ret
          exact ⟨rfl, rfl⟩
        · have d4 : ((A16 : Int) == 0) = false := beq_eq_false_iff_ne.2 (fun h => c4 (Int.ofNat_inj.1 (show ((A16 : Nat) : Int) = ((0 : Nat) : Int) from h)))
          have hB : B = false := by rw [HS.out, decide_eq_false c4]
          subst hB
          go_enter Try.func24, Try.ntmps24
          go_wp2_with fail
          go_ret
          exact ⟨rfl, rfl⟩
      · have d3 : ((A21 : Int) == 0) = false := beq_eq_false_iff_ne.2 (fun h => c3 (Int.ofNat_inj.1 (show ((A21 : Nat) : Int) = ((0 : Nat) : Int) from h)))
        have hB : B = false := by rw [HS.out, decide_eq_false c3]; rfl
        subst hB
        go_enter Try.func24, Try.ntmps24
        go_wp2_with fail
        go_ret
        exact ⟨rfl, rfl⟩
    · have d2 : ((A20 : Int) == (p : Int)) = false := beq_eq_false_iff_ne.2 (fun h => c2 (Int.ofNat_inj.1 h))
      have hB : B = false := by rw [HS.out, decide_eq_false c2]; rfl
      subst hB
      go_enter Try.func24, Try.ntmps24
      go_wp2_with fail
      go_ret
      exact ⟨rfl, rfl⟩
end Go.Proofs.Ytgialijhnghdgaa
