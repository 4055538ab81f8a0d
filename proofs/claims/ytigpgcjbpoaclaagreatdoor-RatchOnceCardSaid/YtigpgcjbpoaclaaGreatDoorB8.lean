import Derived.Test.YtigpgcjbpoaclaaGreatDoorB2
import Derived.Test.YtigpgcjbpoaclaaGreatDoorProg
import Derived.IntWalk
import Derived.Lib.Hide
import Derived.BigQuiet
import Derived.Deep.QuietTactic
import Derived.Outline
import Derived.WalkSpells
set_option linter.unusedVariables false
set_option linter.unusedSimpArgs false
namespace Go.Proofs.YtigpgcjbpoaclaaGreatDoor
open Go.RowKit
attribute [local go_sem] u_wrap u_add u_xor u_and u_or u_shl u_shr
theorem and31 (x : Int) (h₀ : 0 ≤ x) (h₁ : x < 2 ^ 64) : bits .and .u64 x 31 = x % 32 :=
  bits_mask .u64 64 (by decide) (fun n h0 h1 => by simp [IntKind.wrap, IntKind.bits, IntKind.signed]; omega) 5 (by decide) x h₀ h₁
theorem turnBy (i : Nat) (h0 : 0 < i) (h1 : i < 32) : bits .and .u64 (IntKind.u64.wrap (-(i : Int))) 31 = 32 - (i : Int) := by
  have hw : IntKind.u64.wrap (-(i : Int)) = 18446744073709551616 - i := by
    simp [IntKind.wrap, IntKind.bits, IntKind.signed]; omega
  rw [hw, and31 _ (by omega) (by omega)]
  omega
set_option maxHeartbeats 400000 in
theorem rotate_any (i : Nat) (x : UInt32) (w : World) (h0 : 0 < i) (h1 : i < 32) :
    Calls Tryz.prog 118 #[.int .u32 (u x), .int .i64 (-(i : Int))] w fun e w' => e = .returned (.int .u32 (u (rotr i x))) ∧ w = w' := by
  have ht := turnBy i h0 h1
  have e1 : (32 - (i : Int)).toNat = 32 - i := by omega
  have e2 : IntKind.u64.wrap (32 - (32 - (i : Int))) = i := by simp [IntKind.wrap, IntKind.bits, IntKind.signed]; omega
  go_enter Tryz.func118, Tryz.ntmps118
  go_wp2
  go_ret
  exact ⟨by rw [wor_comm]; rfl, rfl⟩
set_option maxHeartbeats 400000 in
theorem turned_nat (i j k : Nat) (x : UInt32) (w : World) (hi : 0 < i ∧ i < 32) (hj : 0 < j ∧ j < 32) (hk : 0 < k ∧ k < 32) :
    Calls Tryz.prog 113 #[.int .u32 (u x), .int .i64 i, .int .i64 j, .int .i64 k] w fun e w' => e = .returned (.int .u32 (u (big i j k x))) ∧ w = w' := by
  have n : ∀ i : Nat, i < 32 → IntKind.i64.wrap (-(i : Int)) = -i := fun i h => by rw [IntKind.wrap_i64]; omega
  have ni := n i hi.2
  have nj := n j hj.2
  have nk := n k hk.2
  obtain ⟨hi0, hi1⟩ := hi
  obtain ⟨hj0, hj1⟩ := hj
  obtain ⟨hk0, hk1⟩ := hk
  clear n
  go_enter Tryz.func113, Tryz.ntmps113
  go_wp2_with ((go_at_call 118; refine (rotate_any _ _ _ (by assumption) (by assumption)).mono ?_; rintro e w' ⟨rfl, rfl⟩))
  go_ret
  exact ⟨rfl, rfl⟩
theorem turned_e (x : UInt32) (w : World) : Calls Tryz.prog 113 #[.int .u32 (u x), .int .i64 6, .int .i64 11, .int .i64 25] w fun e w' => e = .returned (.int .u32 (u (big 6 11 25 x))) ∧ w = w' :=
  turned_nat 6 11 25 x w (by decide) (by decide) (by decide)
theorem turned_a (x : UInt32) (w : World) : Calls Tryz.prog 113 #[.int .u32 (u x), .int .i64 2, .int .i64 13, .int .i64 22] w fun e w' => e = .returned (.int .u32 (u (big 2 13 22 x))) ∧ w = w' :=
  turned_nat 2 13 22 x w (by decide) (by decide) (by decide)
set_option maxHeartbeats 400000 in
theorem shifted_nat (i j k : Nat) (x : UInt32) (w : World) (hi : 0 < i ∧ i < 32) (hj : 0 < j ∧ j < 32) (hk : 0 < k ∧ k < 32) :
    Calls Tryz.prog 117 #[.int .u32 (u x), .int .i64 i, .int .i64 j, .int .i64 k] w fun e w' => e = .returned (.int .u32 (u (small i j k x))) ∧ ∃ n, w' = w.drewN n := by
  have n : ∀ i : Nat, i < 32 → IntKind.i64.wrap (-(i : Int)) = -i := fun i h => by rw [IntKind.wrap_i64]; omega
  have ni := n i hi.2
  have nj := n j hj.2
  have hs := u_shr k x
  obtain ⟨hi0, hi1⟩ := hi
  obtain ⟨hj0, hj1⟩ := hj
  obtain ⟨hk0, hk1⟩ := hk
  clear n
  go_enter Tryz.func117, Tryz.ntmps117
  go_wp2
  go_quiet ((go_at_call 118; exact quiet_left (rotate_any _ _ _ (by assumption) (by assumption))))
  go_wp2
  go_ret
  exact ⟨rfl, _, rfl⟩
theorem shifted_1 (x : UInt32) (w : World) : Calls Tryz.prog 117 #[.int .u32 (u x), .int .i64 17, .int .i64 19, .int .i64 10] w fun e w' => e = .returned (.int .u32 (u (small 17 19 10 x))) ∧ ∃ n, w' = w.drewN n :=
  shifted_nat 17 19 10 x w (by decide) (by decide) (by decide)
theorem shifted_0 (x : UInt32) (w : World) : Calls Tryz.prog 117 #[.int .u32 (u x), .int .i64 7, .int .i64 18, .int .i64 3] w fun e w' => e = .returned (.int .u32 (u (small 7 18 3 x))) ∧ ∃ n, w' = w.drewN n :=
  shifted_nat 7 18 3 x w (by decide) (by decide) (by decide)
set_option maxHeartbeats 400000 in
theorem turn_nat (i : Nat) (x : UInt32) (w : World) (h0 : 0 < i) (h1 : i < 32) :
    Calls Tryz.prog 100 #[.int .u32 (u x), .int .u32 i] w fun e w' => e = .returned (.int .u32 (u (rotr i x))) ∧ w = w' := by
  have e2 : IntKind.u32.wrap (32 - (i : Int)) = 32 - i := by rw [IntKind.wrap_u32]; omega
  have e1 : (32 - (i : Int)).toNat = 32 - i := by omega
  have hs := u_shr i x
  have hl := u_shl (32 - i) x
  go_enter Tryz.func100, Tryz.ntmps100
  go_wp2
  go_ret
  exact ⟨rfl, rfl⟩
def ub (b : UInt8) : Int := (b.toNat : Int)
theorem ub_nonneg (b : UInt8) : 0 ≤ ub b := Int.natCast_nonneg _
theorem ub_lt (b : UInt8) : ub b < 256 := by unfold ub; have := b.toNat_lt; omega
theorem wordOf_sum (a b c d : UInt8) : ub a * 16777216 + ub b * 65536 + ub c * 256 + ub d = u (wordOf a b c d) := by
  unfold wordOf ub
  have := a.toNat_lt
  have := b.toNat_lt
  have := c.toNat_lt
  have := d.toNat_lt
  rw [u_of _ (by omega)]
  omega
theorem Rd.row {w : World} {a : Option Addr} {n c : Nat} {l : List UInt8} (h : Rd w (.slice a n c) l) (hn : 0 < n) :
    ∃ b off, a = some ⟨b, off, none⟩ ∧ b < w.heap.size ∧ ∀ i, i < n → w.cell? ⟨b, off + i, none⟩ = some (.int .u8 (ub (l.getD i 0))) := h.at 0 hn
set_option maxHeartbeats 1000000 in
theorem word_any (v : Value) (l : List UInt8) (at' : Nat) (w : World) (h : Rd w v l) (hl : at' + 4 ≤ l.length) :
    Calls Tryz.prog 99 #[v, .int .i64 at'] w fun e w' => e = .returned (.int .u32 (u (wordOf (l.getD at' 0) (l.getD (at' + 1) 0) (l.getD (at' + 2) 0) (l.getD (at' + 3) 0)))) ∧ ∃ n, w' = w.drewN n := by
  obtain ⟨a, c, rfl, h1, h2⟩ := h.shape
  unfold maxLen at h2
  obtain ⟨b, off, rfl, hb, hc⟩ := h.row (by omega)
  have c0 := hc at' (by omega)
  have c1 := hc (at' + 1) (by omega)
  have c2 := hc (at' + 2) (by omega)
  have c3 := hc (at' + 3) (by omega)
  have hs := wordOf_sum (l.getD at' 0) (l.getD (at' + 1) 0) (l.getD (at' + 2) 0) (l.getD (at' + 3) 0)
  generalize l.getD at' 0 = x0 at *
  generalize l.getD (at' + 1) 0 = x1 at *
  generalize l.getD (at' + 2) 0 = x2 at *
  generalize l.getD (at' + 3) 0 = x3 at *
  have b0 := ub_nonneg x0
  have b1 := ub_nonneg x1
  have b2 := ub_nonneg x2
  have b3 := ub_nonneg x3
  have d0 := ub_lt x0
  have d1 := ub_lt x1
  have d2 := ub_lt x2
  have d3 := ub_lt x3
  clear hc
  have i0 : (at' : Int) < (l.length : Int) := by omega
  have i1 : (at' : Int) + 1 < (l.length : Int) := by omega
  have i2 : (at' : Int) + 2 < (l.length : Int) := by omega
  have i3 : (at' : Int) + 3 < (l.length : Int) := by omega
  have n1 : (0 : Int) ≤ (at' : Int) + 1 := by omega
  have n2 : (0 : Int) ≤ (at' : Int) + 2 := by omega
  have n3 : (0 : Int) ≤ (at' : Int) + 3 := by omega
  have k1 : IntKind.i64.wrap ((at' : Int) + 1) = (at' : Int) + 1 := IntWalk.i64_in _ (by omega)
  have k2 : IntKind.i64.wrap ((at' : Int) + 2) = (at' : Int) + 2 := IntWalk.i64_in _ (by omega)
  have k3 : IntKind.i64.wrap ((at' : Int) + 3) = (at' : Int) + 3 := IntWalk.i64_in _ (by omega)
  have t1 : ((at' : Int) + 1).toNat = at' + 1 := by omega
  have t2 : ((at' : Int) + 2).toNat = at' + 2 := by omega
  have t3 : ((at' : Int) + 3).toNat = at' + 3 := by omega
  have W : ∀ x : Int, 0 ≤ x → x < 4294967296 → IntKind.u32.wrap x = x := fun x h0 h1 => by rw [IntKind.wrap_u32]; omega
  have v0 := W (ub x0) (by omega) (by omega)
  have v1 := W (ub x1) (by omega) (by omega)
  have v2 := W (ub x2) (by omega) (by omega)
  have v3 := W (ub x3) (by omega) (by omega)
  have m0 := W (ub x0 * 16777216) (by omega) (by omega)
  have m1 := W (ub x1 * 65536) (by omega) (by omega)
  have m2 := W (ub x2 * 256) (by omega) (by omega)
  have s1 := W (ub x0 * 16777216 + ub x1 * 65536) (by omega) (by omega)
  have s2 := W (ub x0 * 16777216 + ub x1 * 65536 + ub x2 * 256) (by omega) (by omega)
  have s3 := W (ub x0 * 16777216 + ub x1 * 65536 + ub x2 * 256 + ub x3) (by omega) (by omega)
  have H := Lib.hid hs
  clear W hs b0 b1 b2 b3 d0 d1 d2 d3
  go_enter Tryz.func99, Tryz.ntmps99
  go_wp2
  go_quiet (fail)
  go_wp2
  go_ret
  exact ⟨by rw [← H.out]; rfl, _, rfl⟩
theorem turn_int (n : Int) (x : UInt32) (w : World) (h0 : 0 < n) (h1 : n < 32) :
    Calls Tryz.prog 100 #[.int .u32 (u x), .int .u32 n] w fun e w' => e = .returned (.int .u32 (u (rotr n.toNat x))) ∧ w = w' := by
  obtain ⟨i, rfl⟩ := Int.eq_ofNat_of_zero_le (Int.le_of_lt h0)
  rw [Int.toNat_natCast]
  exact turn_nat i x w (by omega) (by omega)
theorem word_int (x : Int) (v : Value) (l : List UInt8) (at' : Nat) (w : World) (h : Rd w v l) (hl : at' + 4 ≤ l.length) (hx : x = at') :
    Calls Tryz.prog 99 #[v, .int .i64 x] w fun e w' => e = .returned (.int .u32 (u (wordOf (l.getD at' 0) (l.getD (at' + 1) 0) (l.getD (at' + 2) 0) (l.getD (at' + 3) 0)))) ∧ ∃ n, w' = w.drewN n := by
  subst hx
  exact word_any v l at' w h hl
theorem u64_in (x : Int) (h0 : 0 ≤ x) (h1 : x < 18446744073709551616) : IntKind.u64.wrap x = x := by
  simp [IntKind.wrap, IntKind.bits, IntKind.signed]; omega
set_option maxHeartbeats 1000000 in
theorem cubeRoot_any (n : Nat) (w : World) (h0 : 1 ≤ n) (h1 : (n : Int) < 9223372036854775808) :
    Calls Tryz.prog 116 #[.int .u64 n] w fun e w' => e = .returned (.int .u64 (croots n)) ∧ w = w' := by
  obtain ⟨R, hR⟩ : ∃ R, croots n = R := ⟨_, rfl⟩
  rw [hR]
  unfold croots at hR
  have HR := Lib.hid hR
  clear hR
  go_enter Tryz.func116, Tryz.ntmps116
  go_wp2_with fail
  go_loopw [3] (fun x wr => (∃ k : Nat, x = .int .u64 k ∧ 1 ≤ k ∧ (k : Int) ≤ 2097152 ∧ ∃ f, k ≤ f ∧ croot f n k = R) ∧ wr = w) (fun x _ => (intOf x).toNat)
  case atStart => exact ⟨⟨2097152, rfl, by decide, by decide, 2097152, Nat.le_refl _, HR.out⟩, rfl⟩
  case round =>
    obtain ⟨⟨k, rfl, hk1, hk2, f, hf, hc⟩, rfl⟩ := hrel
    have HC := Lib.hid hc
    have hkk : (1 : Int) ≤ (k : Int) * (k : Int) := by
      have := Nat.mul_le_mul hk1 hk1
      have h2 : ((1 * 1 : Nat) : Int) ≤ ((k * k : Nat) : Int) := by omega
      rwa [Int.natCast_mul] at h2
    have hkk2 : (k : Int) * (k : Int) ≤ 4398046511104 := by
      have h2 := Int.mul_le_mul hk2 hk2 (by omega) (by omega)
      exact h2
    have hne : ¬ (k : Int) * (k : Int) = 0 := by omega
    have m1 : IntKind.u64.wrap (2 * (k : Int)) = 2 * (k : Int) := u64_in _ (by omega) (by omega)
    have m2 : IntKind.u64.wrap ((k : Int) * (k : Int)) = (k : Int) * (k : Int) := u64_in _ (by omega) (by omega)
    have hd0 : 0 ≤ (n : Int) / ((k : Int) * (k : Int)) := Int.ediv_nonneg (by omega) (by omega)
    have hd1 : (n : Int) / ((k : Int) * (k : Int)) ≤ (n : Int) := Int.ediv_le_self _ (by omega)
    have m3 : IntKind.u64.wrap (2 * (k : Int) + (n : Int) / ((k : Int) * (k : Int))) = 2 * (k : Int) + (n : Int) / ((k : Int) * (k : Int)) := u64_in _ (by omega) (by omega)
    have m0 : IntKind.u64.wrap ((n : Int) / ((k : Int) * (k : Int))) = (n : Int) / ((k : Int) * (k : Int)) := u64_in _ (by omega) (by omega)
    have hq : (2 * (k : Int) + (n : Int) / ((k : Int) * (k : Int))).tdiv 3 = ((nextRoot n k : Nat) : Int) := by
      rw [Int.tdiv_eq_ediv_of_nonneg (by omega)]
      unfold nextRoot
      simp
    have hq1 := nextRoot_pos n k h0 hk1
    have hq2 : ((nextRoot n k : Nat) : Int) < 18446744073709551616 := by
      rw [← hq, Int.tdiv_eq_ediv_of_nonneg (by omega)]
      omega
    have m5 : IntKind.u64.wrap ((nextRoot n k : Nat) : Int) = ((nextRoot n k : Nat) : Int) := u64_in _ (by omega) hq2
    obtain ⟨q, hqq⟩ : ∃ q, nextRoot n k = q := ⟨_, rfl⟩
    rw [hqq] at hq hq1 m5
    have HQ := Lib.hid hqq
    have B := Lib.hid (And.intro hk2 (And.intro hkk2 h1))
    clear hc hk2 hkk2 h1 HR hd1 hq2 hqq
    by_cases hge : k ≤ q
    · go_wp2_with fail
      go_ret
      exact ⟨by rw [← HC.out, croot_stop f n k (by rw [HQ.out]; exact hge)]; rfl, rfl⟩
    · go_wp2_with fail
      go_roundw
      case rel =>
        obtain ⟨g, hg1, hg2⟩ := croot_go f n k hf (by rw [HQ.out]; exact hge)
        have := B.out.1
        rw [HQ.out] at hg1 hg2
        exact ⟨⟨q, rfl, hq1, by omega, g, hg1, hg2.trans HC.out⟩, trivial⟩
      case measure => simp [intOf]; omega
set_option maxHeartbeats 1000000 in
theorem rootBits_any (p : Nat) (w : World) (h0 : 1 ≤ p) (h1 : p < 312) :
    Calls Tryz.prog 110 #[.int .u64 p] w fun e w' => e = .returned (.int .u32 (u (rootW p))) ∧ w = w' := by
  have hfit : fits p = true := (fits_all ⟨p, h1⟩).resolve_left (by simp; omega)
  unfold fits at hfit
  simp only [Bool.and_eq_true, decide_eq_true_eq] at hfit
  obtain ⟨hf1, hf2⟩ := hfit
  have hN : ((rootN p : Nat) : Int) = (p : Int) * 18014398509481984 := by unfold rootN; simp
  have hr := croot_range 2097152 (rootN p) 2097152 (by unfold rootN; omega) (by decide)
  have hw : rootW p = UInt32.ofNat (bitsN p) := rfl
  have hb : bitsN p = croots (rootN p) * 16384 + restN p * 16384 / (3 * croots (rootN p) * croots (rootN p)) := rfl
  have hre : restN p = rootN p - croots (rootN p) * croots (rootN p) * croots (rootN p) := rfl
  change 1 ≤ croots (rootN p) ∧ croots (rootN p) ≤ 2097152 at hr
  have hNb : ((rootN p : Nat) : Int) < 9223372036854775808 := by rw [hN]; omega
  have hN1 : 1 ≤ rootN p := by unfold rootN; omega
  have HC := Lib.hid (cubeRoot_any (rootN p))
  rw [hb] at hw
  generalize croots (rootN p) = x at *
  generalize rootN p = N at *
  generalize restN p = r at *
  clear hb
  have hx1 : (1 : Int) ≤ (x : Int) := by omega
  have hx2 : (x : Int) ≤ 2097152 := by omega
  have hxx : (1 : Int) ≤ (x : Int) * (x : Int) := by
    have := Nat.mul_le_mul hr.1 hr.1
    have h2 : ((1 * 1 : Nat) : Int) ≤ ((x * x : Nat) : Int) := by omega
    rwa [Int.natCast_mul] at h2
  have hxx2 : (x : Int) * (x : Int) ≤ 4398046511104 := by
    have h2 := Int.mul_le_mul hx2 hx2 (by omega) (by omega)
    exact h2
  have hx3 : (x : Int) * (x : Int) * (x : Int) ≤ (N : Int) := by
    have h2 : ((x * x * x : Nat) : Int) ≤ ((N : Nat) : Int) := by omega
    rwa [Int.natCast_mul, Int.natCast_mul] at h2
  have hx30 : 0 ≤ (x : Int) * (x : Int) * (x : Int) := Int.mul_nonneg (by omega) (by omega)
  have h3xx : 3 * (x : Int) * (x : Int) = 3 * ((x : Int) * (x : Int)) := by rw [Int.mul_assoc]
  have A : IntKind.u64.wrap ((p : Int) * 18014398509481984) = (N : Int) := by rw [← hN]; exact u64_in _ (by omega) (by omega)
  have X2 : IntKind.u64.wrap ((x : Int) * (x : Int)) = (x : Int) * (x : Int) := u64_in _ (by omega) (by omega)
  have X3 : IntKind.u64.wrap ((x : Int) * (x : Int) * (x : Int)) = (x : Int) * (x : Int) * (x : Int) := u64_in _ hx30 (by omega)
  have hrr : (r : Int) = (N : Int) - (x : Int) * (x : Int) * (x : Int) := by
    have : ((x * x * x : Nat) : Int) = (x : Int) * (x : Int) * (x : Int) := by rw [Int.natCast_mul, Int.natCast_mul]
    omega
  have R : IntKind.u64.wrap ((N : Int) - (x : Int) * (x : Int) * (x : Int)) = (r : Int) := by rw [← hrr]; exact u64_in _ (by omega) (by omega)
  have S1 : IntKind.u64.wrap ((x : Int) * 16384) = (x : Int) * 16384 := u64_in _ (by omega) (by omega)
  have S2 : IntKind.u64.wrap ((r : Int) * 16384) = (r : Int) * 16384 := u64_in _ (by omega) (by omega)
  have T1 : IntKind.u64.wrap (3 * (x : Int)) = 3 * (x : Int) := u64_in _ (by omega) (by omega)
  have T2 : IntKind.u64.wrap (3 * (x : Int) * (x : Int)) = 3 * (x : Int) * (x : Int) := u64_in _ (by omega) (by omega)
  have hne : ¬ (3 * (x : Int) * (x : Int) = 0) := by omega
  have hd0 : 0 ≤ (r : Int) * 16384 / (3 * (x : Int) * (x : Int)) := Int.ediv_nonneg (by omega) (by omega)
  have hd1 : (r : Int) * 16384 / (3 * (x : Int) * (x : Int)) ≤ (r : Int) * 16384 := Int.ediv_le_self _ (by omega)
  have hT : ((r : Int) * 16384).tdiv (3 * (x : Int) * (x : Int)) = (r : Int) * 16384 / (3 * (x : Int) * (x : Int)) := Int.tdiv_eq_ediv_of_nonneg (by omega)
  obtain ⟨d, hd⟩ : ∃ d : Nat, r * 16384 / (3 * x * x) = d := ⟨_, rfl⟩
  have hdi : (r : Int) * 16384 / (3 * (x : Int) * (x : Int)) = (d : Int) := by rw [← hd]; simp
  rw [hdi] at hd0 hd1 hT
  rw [hd] at hw
  have D1 : IntKind.u64.wrap (d : Int) = (d : Int) := u64_in _ (by omega) (by omega)
  have D2 : IntKind.u64.wrap ((x : Int) * 16384 + (d : Int)) = (x : Int) * 16384 + (d : Int) := u64_in _ (by omega) (by omega)
  have U : IntKind.u32.wrap ((x : Int) * 16384 + (d : Int)) = u (rootW p) := by
    rw [hw, u_ofNat, IntKind.wrap_u32]
    simp
  have H1 := Lib.hid hNb
  have H2 := Lib.hid hN1
  have hxx0 : 0 ≤ (x : Int) * (x : Int) := by omega
  have hp0 : 0 ≤ (p : Int) := by omega
  clear hNb hN1 hx2 hxx2 hx3 hf1 hf2 hN hw hre hr hrr h3xx hd hd1
  go_enter Tryz.func110, Tryz.ntmps110
  go_wp2_with fail
  refine (HC.out _ H2.out H1.out).mono ?_
  rintro e w' ⟨rfl, rfl⟩
  go_wp2_with fail
  go_ret
  exact ⟨rfl, rfl⟩
end Go.Proofs.YtigpgcjbpoaclaaGreatDoor
