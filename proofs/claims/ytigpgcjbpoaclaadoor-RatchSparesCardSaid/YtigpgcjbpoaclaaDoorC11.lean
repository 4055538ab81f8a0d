import Derived.Test.YtigpgcjbpoaclaaDoorC10
import Derived.Test.YtigpgcjbpoaclaaDoorProg
import Derived.IntWalk
import Derived.Lib.Hide
import Derived.Outline
import Derived.WalkSpells
set_option linter.unusedVariables false
set_option linter.unusedSimpArgs false
namespace Go.Proofs.YtigpgcjbpoaclaaDoor
open Go.RowKit
theorem u64_in (x : Int) (h0 : 0 ≤ x) (h1 : x < 18446744073709551616) : IntKind.u64.wrap x = x := by
  simp [IntKind.wrap, IntKind.bits, IntKind.signed]; omega
set_option maxHeartbeats 1000000 in
theorem cubeRoot_any (n : Nat) (w : World) (h0 : 1 ≤ n) (h1 : (n : Int) < 9223372036854775808) :
    Calls Tryd.prog 104 #[.int .u64 n] w fun e w' => e = .returned (.int .u64 (croots n)) ∧ w = w' := by
  obtain ⟨R, hR⟩ : ∃ R, croots n = R := ⟨_, rfl⟩
  rw [hR]
  unfold croots at hR
  have HR := Lib.hid hR
  clear hR
  go_enter Tryd.func104, Tryd.ntmps104
  go_wp2_with fail
  go_loopw [3] (fun x wr => (∃ k : Nat, x = .int .u64 k ∧ 1 ≤ k ∧ (k : Int) ≤ 2097152 ∧ ∃ f, k ≤ f ∧ croot f n k = R) ∧ wr = w) (fun x _ => (intOf x).toNat)
  case atStart => exact ⟨⟨2097152, rfl, by decide, by decide, 2097152, Nat.le_refl _, HR.out⟩, rfl⟩
  case round =>
    obtain ⟨⟨k, rfl, hk1, hk2, f, hf, hc⟩, rfl⟩ := hrel
    have HC := Lib.hid hc
    have hkk : (1 : Int) ≤ (k : Int) * (k : Int) := by
      have := Nat.mul_le_mul hk1 hk1
      have h2 : ((1 * 1 : Nat) : Int) ≤ ((k * k : Nat) : Int) := by omega
      rwa [Int.natCast_mul] at h2
    have hkk2 : (k : Int) * (k : Int) ≤ 4398046511104 := by
      have h2 := Int.mul_le_mul hk2 hk2 (by omega) (by omega)
      exact h2
    have hne : ¬ (k : Int) * (k : Int) = 0 := by omega
    have m1 : IntKind.u64.wrap (2 * (k : Int)) = 2 * (k : Int) := u64_in _ (by omega) (by omega)
    have m2 : IntKind.u64.wrap ((k : Int) * (k : Int)) = (k : Int) * (k : Int) := u64_in _ (by omega) (by omega)
    have hd0 : 0 ≤ (n : Int) / ((k : Int) * (k : Int)) := Int.ediv_nonneg (by omega) (by omega)
    have hd1 : (n : Int) / ((k : Int) * (k : Int)) ≤ (n : Int) := Int.ediv_le_self _ (by omega)
    have m3 : IntKind.u64.wrap (2 * (k : Int) + (n : Int) / ((k : Int) * (k : Int))) = 2 * (k : Int) + (n : Int) / ((k : Int) * (k : Int)) := u64_in _ (by omega) (by omega)
    have m0 : IntKind.u64.wrap ((n : Int) / ((k : Int) * (k : Int))) = (n : Int) / ((k : Int) * (k : Int)) := u64_in _ (by omega) (by omega)
    have hq : (2 * (k : Int) + (n : Int) / ((k : Int) * (k : Int))).tdiv 3 = ((nextRoot n k : Nat) : Int) := by
      rw [Int.tdiv_eq_ediv_of_nonneg (by omega)]
      unfold nextRoot
      simp
    have hq1 := nextRoot_pos n k h0 hk1
    have hq2 : ((nextRoot n k : Nat) : Int) < 18446744073709551616 := by
      rw [← hq, Int.tdiv_eq_ediv_of_nonneg (by omega)]
      omega
    have m5 : IntKind.u64.wrap ((nextRoot n k : Nat) : Int) = ((nextRoot n k : Nat) : Int) := u64_in _ (by omega) hq2
    obtain ⟨q, hqq⟩ : ∃ q, nextRoot n k = q := ⟨_, rfl⟩
    rw [hqq] at hq hq1 m5
    have HQ := Lib.hid hqq
    have B := Lib.hid (And.intro hk2 (And.intro hkk2 h1))
    clear hc hk2 hkk2 h1 HR hd1 hq2 hqq
    by_cases hge : k ≤ q
    · go_wp2_with fail
      go_ret
      exact ⟨by rw [← HC.out, croot_stop f n k (by rw [HQ.out]; exact hge)]; rfl, rfl⟩
    · go_wp2_with fail
      go_roundw
      case rel =>
        obtain ⟨g, hg1, hg2⟩ := croot_go f n k hf (by rw [HQ.out]; exact hge)
        have := B.out.1
        rw [HQ.out] at hg1 hg2
        exact ⟨⟨q, rfl, hq1, by omega, g, hg1, hg2.trans HC.out⟩, trivial⟩
      case measure => simp [intOf]; omega
set_option maxHeartbeats 1000000 in
theorem rootBits_any (p : Nat) (w : World) (h0 : 1 ≤ p) (h1 : p < 312) :
    Calls Tryd.prog 98 #[.int .u64 p] w fun e w' => e = .returned (.int .u32 (u (rootW p))) ∧ w = w' := by
  have hfit : fits p = true := (fits_all ⟨p, h1⟩).resolve_left (by simp; omega)
  unfold fits at hfit
  simp only [Bool.and_eq_true, decide_eq_true_eq] at hfit
  obtain ⟨hf1, hf2⟩ := hfit
  have hN : ((rootN p : Nat) : Int) = (p : Int) * 18014398509481984 := by unfold rootN; simp
  have hr := croot_range 2097152 (rootN p) 2097152 (by unfold rootN; omega) (by decide)
  have hw : rootW p = UInt32.ofNat (bitsN p) := rfl
  have hb : bitsN p = croots (rootN p) * 16384 + restN p * 16384 / (3 * croots (rootN p) * croots (rootN p)) := rfl
  have hre : restN p = rootN p - croots (rootN p) * croots (rootN p) * croots (rootN p) := rfl
  change 1 ≤ croots (rootN p) ∧ croots (rootN p) ≤ 2097152 at hr
  have hNb : ((rootN p : Nat) : Int) < 9223372036854775808 := by rw [hN]; omega
  have hN1 : 1 ≤ rootN p := by unfold rootN; omega
  have HC := Lib.hid (cubeRoot_any (rootN p))
  rw [hb] at hw
  generalize croots (rootN p) = x at *
  generalize rootN p = N at *
  generalize restN p = r at *
  clear hb
  have hx1 : (1 : Int) ≤ (x : Int) := by omega
  have hx2 : (x : Int) ≤ 2097152 := by omega
  have hxx : (1 : Int) ≤ (x : Int) * (x : Int) := by
    have := Nat.mul_le_mul hr.1 hr.1
    have h2 : ((1 * 1 : Nat) : Int) ≤ ((x * x : Nat) : Int) := by omega
    rwa [Int.natCast_mul] at h2
  have hxx2 : (x : Int) * (x : Int) ≤ 4398046511104 := by
    have h2 := Int.mul_le_mul hx2 hx2 (by omega) (by omega)
    exact h2
  have hx3 : (x : Int) * (x : Int) * (x : Int) ≤ (N : Int) := by
    have h2 : ((x * x * x : Nat) : Int) ≤ ((N : Nat) : Int) := by omega
    rwa [Int.natCast_mul, Int.natCast_mul] at h2
  have hx30 : 0 ≤ (x : Int) * (x : Int) * (x : Int) := Int.mul_nonneg (by omega) (by omega)
  have h3xx : 3 * (x : Int) * (x : Int) = 3 * ((x : Int) * (x : Int)) := by rw [Int.mul_assoc]
  have A : IntKind.u64.wrap ((p : Int) * 18014398509481984) = (N : Int) := by rw [← hN]; exact u64_in _ (by omega) (by omega)
  have X2 : IntKind.u64.wrap ((x : Int) * (x : Int)) = (x : Int) * (x : Int) := u64_in _ (by omega) (by omega)
  have X3 : IntKind.u64.wrap ((x : Int) * (x : Int) * (x : Int)) = (x : Int) * (x : Int) * (x : Int) := u64_in _ hx30 (by omega)
  have hrr : (r : Int) = (N : Int) - (x : Int) * (x : Int) * (x : Int) := by
    have : ((x * x * x : Nat) : Int) = (x : Int) * (x : Int) * (x : Int) := by rw [Int.natCast_mul, Int.natCast_mul]
    omega
  have R : IntKind.u64.wrap ((N : Int) - (x : Int) * (x : Int) * (x : Int)) = (r : Int) := by rw [← hrr]; exact u64_in _ (by omega) (by omega)
  have S1 : IntKind.u64.wrap ((x : Int) * 16384) = (x : Int) * 16384 := u64_in _ (by omega) (by omega)
  have S2 : IntKind.u64.wrap ((r : Int) * 16384) = (r : Int) * 16384 := u64_in _ (by omega) (by omega)
  have T1 : IntKind.u64.wrap (3 * (x : Int)) = 3 * (x : Int) := u64_in _ (by omega) (by omega)
  have T2 : IntKind.u64.wrap (3 * (x : Int) * (x : Int)) = 3 * (x : Int) * (x : Int) := u64_in _ (by omega) (by omega)
  have hne : ¬ (3 * (x : Int) * (x : Int) = 0) := by omega
  have hd0 : 0 ≤ (r : Int) * 16384 / (3 * (x : Int) * (x : Int)) := Int.ediv_nonneg (by omega) (by omega)
  have hd1 : (r : Int) * 16384 / (3 * (x : Int) * (x : Int)) ≤ (r : Int) * 16384 := Int.ediv_le_self _ (by omega)
  have hT : ((r : Int) * 16384).tdiv (3 * (x : Int) * (x : Int)) = (r : Int) * 16384 / (3 * (x : Int) * (x : Int)) := Int.tdiv_eq_ediv_of_nonneg (by omega)
  obtain ⟨d, hd⟩ : ∃ d : Nat, r * 16384 / (3 * x * x) = d := ⟨_, rfl⟩
  have hdi : (r : Int) * 16384 / (3 * (x : Int) * (x : Int)) = (d : Int) := by rw [← hd]; simp
  rw [hdi] at hd0 hd1 hT
  rw [hd] at hw
  have D1 : IntKind.u64.wrap (d : Int) = (d : Int) := u64_in _ (by omega) (by omega)
  have D2 : IntKind.u64.wrap ((x : Int) * 16384 + (d : Int)) = (x : Int) * 16384 + (d : Int) := u64_in _ (by omega) (by omega)
  have U : IntKind.u32.wrap ((x : Int) * 16384 + (d : Int)) = u (rootW p) := by
    rw [hw, u_ofNat, IntKind.wrap_u32]
    simp
  have H1 := Lib.hid hNb
  have H2 := Lib.hid hN1
  have hxx0 : 0 ≤ (x : Int) * (x : Int) := by omega
  have hp0 : 0 ≤ (p : Int) := by omega
  clear hNb hN1 hx2 hxx2 hx3 hf1 hf2 hN hw hre hr hrr h3xx hd hd1
  go_enter Tryd.func98, Tryd.ntmps98
  go_wp2_with fail
  refine (HC.out _ H2.out H1.out).mono ?_
  rintro e w' ⟨rfl, rfl⟩
  go_wp2_with fail
  go_ret
  exact ⟨rfl, rfl⟩
end Go.Proofs.YtigpgcjbpoaclaaDoor
