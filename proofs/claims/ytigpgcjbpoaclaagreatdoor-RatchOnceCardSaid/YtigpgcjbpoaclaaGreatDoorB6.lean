import Derived.Test.YtigpgcjbpoaclaaGreatDoorB4
import Derived.Test.YtigpgcjbpoaclaaGreatDoorB5
import Derived.Test.YtigpgcjbpoaclaaGreatDoorRows
import Derived.WalkSpells
import Derived.Lib.Hide
import Derived.Outline
import Derived.Lib.SmallJoins
import Derived.Lib.LaidTab
import Derived.Stop.LaidErr
import Derived.Deep.DeepHandedRow
set_option linter.unusedVariables false
set_option linter.unusedSimpArgs false
namespace Go.Proofs.YtigpgcjbpoaclaaGreatDoor
open Go.RowKit
theorem isTB_no {n : Int} (h : ∀ i, i ≤ 10 → n ≠ ((2 ^ i : Nat) : Int)) : isTB n = false := by
  rw [Bool.eq_false_iff]
  intro h2
  obtain ⟨K, hK, e⟩ := (isTB_iff n).1 h2
  exact h K hK e
set_option maxHeartbeats 1000000 in
theorem refTree_any (n : Int) (w : World) : Calls Tryz.prog 40 #[.int .i64 n] w fun e w' => e = .returned (.bool (isTB n)) ∧ w = w' := by
  have HP : Hid (∀ k, k < 10 → (((2 ^ k : Nat) : Int)) < 1024 ∧ (2 * ((2 ^ k : Nat) : Int)) = ((2 ^ (k + 1) : Nat) : Int)) := fun k hk => by
    have : (2 : Nat) ^ k < 2 ^ 10 := Nat.pow_lt_pow_right (by omega) hk
    have h2 := p2_succ k
    exact ⟨by omega, by omega⟩
  have HY : Hid (∀ k, k ≤ 10 → n = ((2 ^ k : Nat) : Int) → isTB n = true) := fun k hk e => by rw [e]; exact isTB_yes k hk
  have HNO : Hid ((∀ i, i ≤ 10 → n ≠ ((2 ^ i : Nat) : Int)) → isTB n = false) := isTB_no
  generalize isTB n = b at *
  go_enter Tryz.func40, Tryz.ntmps40
  go_wp2_with fail
  go_loop [3] (fun m => ∃ k : Nat, k ≤ 10 ∧ m = .int .i64 ((2 ^ k : Nat) : Int) ∧ ∀ i, i < k → n ≠ ((2 ^ i : Nat) : Int)) (fun m => (1024 - (intOf m).toNat))
  case atStart => exact ⟨0, by omega, rfl, fun i h => by omega⟩
  case round =>
    obtain ⟨k, hk, rfl, hno⟩ := hrel
    by_cases hlt : k < 10
    · obtain ⟨h1, h2⟩ := HP.out k hlt
      have HY2 := HY.out k hk
      have HN : Hid (n ≠ ((2 ^ k : Nat) : Int) → ∀ i, i < k + 1 → n ≠ ((2 ^ i : Nat) : Int)) := fun he i hi => by
        rcases Nat.lt_or_eq_of_le (Nat.lt_succ_iff.1 hi) with h3 | h3
        · exact hno i h3
        · rw [h3]; exact he
      have HM1 : (1 : Int) ≤ ((2 ^ k : Nat) : Int) := by have := p2_pos k; exact_mod_cast this
      generalize ((2 ^ k : Nat) : Int) = m at *
      have hm0 : 0 ≤ m ∨ m < 0 := by omega
      by_cases he : n = m
      · have HB := Lib.hid (HY2 he)
        subst he
        clear HY2 HN HY HNO h2 hno HP
        go_wp2
        go_ret
        exact ⟨by rw [HB.out]; rfl, rfl⟩
      · have hne : ¬ m = n := fun h => he h.symm
        have HN2 := Lib.hid (HN.out he)
        have H2 := Lib.hid h2
        by_cases hp : 0 ≤ m
        · have hw : IntKind.i64.wrap (2 * m) = 2 * m := IntWalk.i64_in _ (by omega)
          have hm1 : 1 ≤ m := HM1
          clear HY2 HN HY HNO h2 hno HP he hm0
          go_wp2
          go_round
          case rel => exact ⟨k + 1, by omega, by rw [← H2.out], HN2.out⟩
          case measure => simp [intOf]; omega
        · exfalso
          have : 0 ≤ ((2 ^ (k + 1) : Nat) : Int) := Int.natCast_nonneg _
          omega
    · obtain rfl : k = 10 := by omega
      have h10 : ((2 ^ 10 : Nat) : Int) = 1024 := rfl
      rw [h10]
      by_cases he : n = 1024
      · have HB := Lib.hid (HY.out 10 (by omega) (by rw [he]; rfl))
        subst he
        clear HY HNO hno HP h10
        go_wp2
        go_ret
        exact ⟨by rw [HB.out]; rfl, rfl⟩
      · have HB := Lib.hid (HNO.out (fun i hi => by
          rcases Nat.lt_or_eq_of_le hi with h3 | h3
          · exact hno i h3
          · rw [h3]; exact he))
        have hne : ¬ (1024 : Int) = n := fun h => he h.symm
        have hne2 : ((1024 : Int) == n) = false := beq_eq_false_iff_ne.2 hne
        clear HY HNO hno HP h10 he
        go_wp2
        go_ret
        exact ⟨by rw [HB.out]; rfl, rfl⟩
set_option maxHeartbeats 1000000 in
theorem refNode_any (x n : Int) (w : World) (hn : -9223372036854775808 ≤ n ∧ n ≤ 9223372036854775807) : Calls Tryz.prog 53 #[.int .i64 x, .int .i64 n] w fun e w' => e = .returned (.bool (inB x n)) ∧ w = w' := by
  have HT := Lib.hid (refTree_any n w)
  by_cases ht : isTB n = true
  · have h1 := isTB_bounds ht
    have h2 : IntKind.i64.wrap (2 * n) = 2 * n := IntWalk.i64_in _ (by omega)
    have h3 : IntKind.i64.wrap (2 * n - 1) = 2 * n - 1 := IntWalk.i64_in _ (by omega)
    have HI : Hid (inB x n = (decide (0 ≤ x) && decide (x < 2 * n - 1))) := by unfold inB; rw [ht]; rfl
    rw [ht] at HT
    rw [HI.out]
    clear ht h1
    by_cases h4 : 0 ≤ x
    · have d1 : (decide (0 ≤ x) && decide (x < 2 * n - 1)) = decide (x < 2 * n - 1) := by simp [h4]
      rw [d1]
      go_enter Tryz.func53, Tryz.ntmps53
      go_wp2_with fail
      refine HT.out.mono ?_; rintro _ _ ⟨rfl, rfl⟩
      go_wp2_with fail
      go_ret
      exact ⟨rfl, rfl⟩
    · have d1 : (decide (0 ≤ x) && decide (x < 2 * n - 1)) = false := by simp; intro h; omega
      rw [d1]
      go_enter Tryz.func53, Tryz.ntmps53
      go_wp2_with fail
      refine HT.out.mono ?_; rintro _ _ ⟨rfl, rfl⟩
      go_wp2_with fail
      go_ret
      exact ⟨rfl, rfl⟩
  · have ht2 : isTB n = false := by rw [Bool.eq_false_iff]; exact ht
    have HI : Hid (inB x n = false) := by unfold Hid inB; rw [ht2]; rfl
    rw [ht2] at HT
    rw [HI.out]
    clear ht ht2
    go_enter Tryz.func53, Tryz.ntmps53
    go_wp2_with fail
    refine HT.out.mono ?_; rintro _ _ ⟨rfl, rfl⟩
    go_wp2_with fail
    go_ret
    exact ⟨rfl, rfl⟩
set_option maxHeartbeats 1000000 in
theorem refWidth_any (n : Int) (w : World) : Calls Tryz.prog 23 #[.int .i64 n] w fun e w' => e = .returned (.tuple #[.int .i64 (widV n), .int .i64 (widE n)]) ∧ w = w' := by
  have HT := Lib.hid (refTree_any n w)
  by_cases ht : isTB n = true
  · have h1 := isTB_bounds ht
    have h2 : IntKind.i64.wrap (2 * n) = 2 * n := IntWalk.i64_in _ (by omega)
    have h3 : IntKind.i64.wrap (2 * n - 1) = 2 * n - 1 := IntWalk.i64_in _ (by omega)
    rw [show widV n = 2 * n - 1 from if_pos ht, show widE n = 0 from if_pos ht]
    rw [ht] at HT
    clear ht h1
    go_enter Tryz.func23, Tryz.ntmps23
    go_wp2_with fail
    refine HT.out.mono ?_; rintro _ _ ⟨rfl, rfl⟩
    go_wp2_with fail
    go_ret2
    exact ⟨rfl, rfl⟩
  · have ht2 : isTB n = false := by rw [Bool.eq_false_iff]; exact ht
    rw [show widV n = 0 from if_neg ht, show widE n = 1 from if_neg ht]
    rw [ht2] at HT
    clear ht ht2
    go_enter Tryz.func23, Tryz.ntmps23
    go_wp2_with fail
    refine HT.out.mono ?_; rintro _ _ ⟨rfl, rfl⟩
    go_wp2_with fail
    go_ret2
    exact ⟨rfl, rfl⟩
theorem tmod2_odd (j q : Nat) : ((nd (j + 1) q : Nat) : Int).tmod 2 = 1 := by
  have := nd_odd j q
  rw [Int.tmod_eq_emod_of_nonneg (by omega)]; omega
theorem tmod2_even (q : Nat) : ((nd 0 q : Nat) : Int).tmod 2 = 0 := by
  have := nd_even q
  rw [Int.tmod_eq_emod_of_nonneg (by omega)]; omega
theorem tdiv2_nd (j q : Nat) : ((nd (j + 1) q : Nat) : Int).tdiv 2 = ((nd j q : Nat) : Int) := by
  have := nd_half j q
  rw [Int.tdiv_eq_ediv_of_nonneg (by omega)]; omega
set_option maxHeartbeats 1000000 in
theorem refLevel_nd (j q : Nat) (w : World) (hj : j ≤ 10) (hq : q < 2 ^ (10 - j)) : Calls Tryz.prog 64 #[.int .i64 ((nd j q : Nat) : Int)] w fun e w' => e = .returned (.int .i64 (j : Int)) ∧ w = w' := by
  obtain ⟨b0, b1⟩ := (small_iff ((nd j q : Nat) : Int)).2 ⟨j, q, rfl, hj, hq⟩
  have HS : Hid (∀ i, i ≤ j → 0 ≤ ((nd i q : Nat) : Int) ∧ ((nd i q : Nat) : Int) ≤ 2046) := fun i hi => (small_iff ((nd i q : Nat) : Int)).2 ⟨i, q, rfl, by omega, Nat.lt_of_lt_of_le hq (Nat.pow_le_pow_right (by omega) (by omega))⟩
  have HO := Lib.hid (fun i => tmod2_odd i q)
  have HE := Lib.hid (tmod2_even q)
  have HD := Lib.hid (fun i => tdiv2_nd i q)
  obtain ⟨f, hf⟩ : ∃ f : Nat → Int, f = fun i => ((nd i q : Nat) : Int) := ⟨_, rfl⟩
  have hfi : ∀ i, ((nd i q : Nat) : Int) = f i := fun i => by rw [hf]
  simp only [hfi] at *
  clear hf hfi
  go_enter Tryz.func64, Tryz.ntmps64
  go_wp2_with fail
  go_loop [3, 4] (fun k y => ∃ i : Nat, i ≤ j ∧ k = .int .i64 ((j - i : Nat) : Int) ∧ y = .int .i64 (f i)) (fun k _ => (j - (intOf k).toNat))
  case atStart => exact ⟨j, Nat.le_refl _, by simp, rfl⟩
  case round =>
    obtain ⟨i, hi, rfl, rfl⟩ := hrel
    cases i with
    | zero =>
      have e1 := HE.out
      clear HS HO HE HD
      rw [Nat.sub_zero]
      go_wp2
      go_ret
      exact ⟨rfl, rfl⟩
    | succ i =>
      have e1 := HO.out i
      have e2 := HD.out i
      have e3 := HS.out i (by omega)
      have e6 : IntKind.i64.wrap (f i) = f i := IntWalk.i64_in _ (by omega)
      obtain ⟨k, hk⟩ : ∃ k : Int, ((j - (i + 1) : Nat) : Int) = k := ⟨_, rfl⟩
      have hk1 : k + 1 = ((j - i : Nat) : Int) := by omega
      have hk2 : 0 ≤ k ∧ k ≤ 10 := by omega
      have e5 : IntKind.i64.wrap (k + 1) = k + 1 := IntWalk.i64_in _ (by omega)
      have HK1 := Lib.hid hk1
      rw [hk]
      clear HS HO HE HD e3 hk hk1
      go_wp2
      go_round
      case rel => exact ⟨i, by omega, by rw [← HK1.out], rfl⟩
      case measure => have := HK1.out; simp [intOf]; omega
set_option maxHeartbeats 1000000 in
theorem refLevel_no (x : Int) (w : World) (h : ¬ okN x) : Calls Tryz.prog 64 #[.int .i64 x] w fun e w' => e = .returned (.int .i64 0) ∧ w = w' := by
  unfold okN at h
  by_cases h0 : 0 ≤ x
  · have h1 : ¬ x ≤ 2046 := fun h1 => h ⟨h0, h1⟩
    clear h
    go_enter Tryz.func64, Tryz.ntmps64
    go_wp2_with fail
    go_loop [3, 4] (fun k y => k = .int .i64 0 ∧ y = .int .i64 x) (fun _ _ => 0)
    case atStart => exact ⟨rfl, rfl⟩
    case round =>
      obtain ⟨rfl, rfl⟩ := hrel
      go_wp2
      go_ret
      exact ⟨rfl, rfl⟩
  · clear h
    go_enter Tryz.func64, Tryz.ntmps64
    go_wp2_with fail
    go_loop [3, 4] (fun k y => k = .int .i64 0 ∧ y = .int .i64 x) (fun _ _ => 0)
    case atStart => exact ⟨rfl, rfl⟩
    case round =>
      obtain ⟨rfl, rfl⟩ := hrel
      go_wp2
      go_ret
      exact ⟨rfl, rfl⟩
theorem refLevel_any (x : Int) (w : World) : Calls Tryz.prog 64 #[.int .i64 x] w fun e w' => e = .returned (.int .i64 (levV x)) ∧ w = w' := by
  by_cases h : okN x
  · obtain ⟨j, q, rfl, hj, hq⟩ := (small_iff x).1 h
    rw [levV_nd hj hq]
    exact refLevel_nd j q w hj hq
  · rw [levV_no h]
    exact refLevel_no x w h
set_option maxHeartbeats 1000000 in
theorem refHalf8_any (k : Nat) (w : World) (hk : k ≤ 20) : Calls Tryz.prog 65 #[.int .i64 (k : Int)] w fun e w' => e = .returned (.int .i64 ((2 ^ k : Nat) : Int)) ∧ w = w' := by
  have HP : Hid (∀ i, i < k → 0 ≤ ((2 ^ i : Nat) : Int) ∧ ((2 ^ i : Nat) : Int) ≤ 1048576 ∧ 2 * ((2 ^ i : Nat) : Int) = ((2 ^ (i + 1) : Nat) : Int)) := fun i hi => by
    have h1 : (2 : Nat) ^ i ≤ 2 ^ 20 := Nat.pow_le_pow_right (by omega) (by omega)
    have h2 := p2_succ i
    generalize 2 ^ (i + 1) = N at *
    generalize 2 ^ i = M at *
    omega
  obtain ⟨f, hf⟩ : ∃ f : Nat → Int, f = fun i => ((2 ^ i : Nat) : Int) := ⟨_, rfl⟩
  have hfi : ∀ i, ((2 ^ i : Nat) : Int) = f i := fun i => by rw [hf]
  have hf0 : f 0 = 1 := by rw [hf]; rfl
  simp only [hfi] at *
  clear hf hfi
  have HF0 := Lib.hid hf0
  clear hf0
  go_enter Tryz.func65, Tryz.ntmps65
  go_wp2_with fail
  go_loop [3, 4] (fun n y => ∃ i : Nat, i ≤ k ∧ n = .int .i64 (f i) ∧ y = .int .i64 (i : Int)) (fun _ y => (k - (intOf y).toNat))
  case atStart => exact ⟨0, Nat.zero_le _, by rw [HF0.out], rfl⟩
  case round =>
    obtain ⟨i, hi, rfl, rfl⟩ := hrel
    by_cases hlt : i < k
    · obtain ⟨h1, h2, h3⟩ := HP.out i hlt
      have HN := Lib.hid h3
      have hw : IntKind.i64.wrap (2 * f i) = 2 * f i := IntWalk.i64_in _ (by omega)
      clear HP h3 HF0
      go_wp2
      go_round
      case rel => exact ⟨i + 1, by omega, by rw [← HN.out], by go_num⟩
      case measure => simp [intOf]; omega
    · obtain rfl : i = k := by omega
      go_wp2
      go_ret
      exact ⟨rfl, rfl⟩
def Tab (w : World) : Prop := ∀ i, i < 64 → w.cell? ⟨1, i, none⟩ = some (.int .u8 ((Lib.deBruijn64tab.getD i 0 : Nat) : Int))
theorem Tab.kp {w w' : World} (h : Tab w) (k : Kp w w') : Tab w' := fun i hi => k.cell (h i hi)
theorem tz_key8 (x a : Nat) (hx : x < 18446744073709551616) (hx0 : x ≠ 0) (hlow : x &&& (18446744073709551616 - x) = a) :
    IntKind.u64.wrap (bits BinOp.and IntKind.u64 (x : Int) (IntKind.u64.wrap (-(x : Int))) * 285870213051353865) / 288230376151711744 = ((a * 285870213051353865 % 18446744073709551616 / 288230376151711744 : Nat) : Int) := by
  have e1 : IntKind.u64.wrap (-(x : Int)) = ((18446744073709551616 - x : Nat) : Int) := by rw [IntKind.wrap_u64]; omega
  rw [e1, bits_and_u64_nat x _ hx (by omega), hlow, IntKind.wrap_u64]
  omega
set_option maxHeartbeats 1000000 in
theorem tz64_core8 (x k idx : Nat) (w : World) (hx0 : ((x : Int) == 0) = false)
    (key : IntKind.u64.wrap (bits BinOp.and IntKind.u64 (x : Int) (IntKind.u64.wrap (-(x : Int))) * 285870213051353865) / 288230376151711744 = (idx : Int))
    (hi : idx < 64) (hk : k < 64) (hcell : w.cell? ⟨1, idx, none⟩ = some (.int .u8 k)) :
    Calls Tryz.prog 77 #[.int .u64 x] w fun e w' => e = .returned (.int .i64 k) ∧ w = w' := by
  go_enter Tryz.func77, Tryz.ntmps77
  go_wp2_with (simp only [key])
  go_ret
  exact ⟨rfl, rfl⟩
theorem tz64_any (x : Nat) (w : World) (hx : x < 18446744073709551616) (hx0 : x ≠ 0) (hT : Tab w) :
    Calls Tryz.prog 77 #[.int .u64 x] w fun e w' => e = .returned (.int .i64 (Lib.ctz 64 x)) ∧ w = w' := by
  obtain ⟨hlow, hk⟩ := Lib.lowest_bit 64 x hx0 hx
  obtain ⟨hi, htab⟩ := Lib.deBruijn64_at _ hk
  have hcell := hT _ hi
  rw [htab] at hcell
  exact tz64_core8 x _ _ w (by simp; omega) (tz_key8 x _ hx hx0 hlow) hi hk hcell
set_option maxHeartbeats 1000000 in
theorem tz_any (x : Nat) (w : World) (hx : x < 18446744073709551616) (hx0 : x ≠ 0) (hT : Tab w) :
    Calls Tryz.prog 69 #[.int .u64 x] w fun e w' => e = .returned (.int .i64 (Lib.ctz 64 x)) ∧ w = w' := by
  have H := Lib.hid (tz64_any x w hx hx0 hT)
  clear hx hx0 hT
  go_enter Tryz.func69, Tryz.ntmps69
  go_wp2_with fail
  refine H.out.mono ?_; rintro _ _ ⟨rfl, rfl⟩
  go_wp2_with fail
  go_ret
  exact ⟨rfl, rfl⟩
set_option maxHeartbeats 1000000 in
theorem isSize_any (n : Int) (w : World) : Calls Tryz.prog 36 #[.int .i64 n] w fun e w' => e = .returned (.bool (isTB n)) ∧ w = w' := by
  by_cases h : 1 ≤ n ∧ n ≤ 1024
  · obtain ⟨N, rfl⟩ := Int.eq_ofNat_of_zero_le (by omega : 0 ≤ n)
    rw [isTB_bits N (by omega) (by omega)]
    have h1 : (1 : Int) ≤ (N : Int) := h.1
    have h2 : (N : Int) ≤ 1024 := h.2
    have e1 : IntKind.i64.wrap ((N : Int) - 1) = ((N - 1 : Nat) : Int) := by rw [IntWalk.i64_in _ (by omega)]; omega
    have e2 : bits .and .i64 (N : Int) ((N - 1 : Nat) : Int) = ((N &&& (N - 1) : Nat) : Int) := bits_and_i64_nat8 N (N - 1) (by omega) (by omega)
    have e3 : (((N &&& (N - 1) : Nat) : Int) == 0) = decide (N &&& (N - 1) = 0) := by
      by_cases h0 : N &&& (N - 1) = 0
      · rw [h0]; rfl
      · rw [decide_eq_false h0, beq_eq_false_iff_ne]; omega
    generalize decide (N &&& (N - 1) = 0) = b at *
    generalize N &&& (N - 1) = M at *
    generalize ((N - 1 : Nat) : Int) = N1 at *
    clear h
    go_enter Tryz.func36, Tryz.ntmps36
    go_wp2_with fail
    go_ret
    exact ⟨rfl, rfl⟩
  · rw [isTB_out n h]
    by_cases h1 : 1 ≤ n
    · have h2 : ¬ n ≤ 1024 := fun e => h ⟨h1, e⟩
      clear h
      go_enter Tryz.func36, Tryz.ntmps36
      go_wp2_with fail
      go_ret
      exact ⟨rfl, rfl⟩
    · clear h
      go_enter Tryz.func36, Tryz.ntmps36
      go_wp2_with fail
      go_ret
      exact ⟨rfl, rfl⟩
set_option maxHeartbeats 1000000 in
theorem isNode_any (x n : Int) (w : World) : Calls Tryz.prog 60 #[.int .i64 x, .int .i64 n] w fun e w' => e = .returned (.bool (inB x n)) ∧ w = w' := by
  have HT := Lib.hid (isSize_any n w)
  by_cases ht : isTB n = true
  · have h1 := isTB_bounds ht
    have h2 : IntKind.i64.wrap (2 * n) = 2 * n := IntWalk.i64_in _ (by omega)
    have h3 : IntKind.i64.wrap (2 * n - 2) = 2 * n - 2 := IntWalk.i64_in _ (by omega)
    have HI : inB x n = (decide (0 ≤ x) && decide (x < 2 * n - 1)) := by unfold inB; rw [ht]; rfl
    have HJ : decide (x < 2 * n - 1) = decide (x ≤ 2 * n - 2) := by congr 1; exact propext ⟨fun h => by omega, fun h => by omega⟩
    rw [ht] at HT
    rw [HI, HJ]
    clear ht h1 HI HJ
    by_cases h4 : 0 ≤ x
    · have d1 : (decide (0 ≤ x) && decide (x ≤ 2 * n - 2)) = decide (x ≤ 2 * n - 2) := by simp [h4]
      rw [d1]
      clear d1
      go_enter Tryz.func60, Tryz.ntmps60
      go_wp2_with fail
      refine HT.out.mono ?_; rintro _ _ ⟨rfl, rfl⟩
      go_wp2_with fail
      go_ret
      exact ⟨rfl, rfl⟩
    · have d1 : (decide (0 ≤ x) && decide (x ≤ 2 * n - 2)) = false := by simp; intro h; omega
      rw [d1]
      clear d1
      go_enter Tryz.func60, Tryz.ntmps60
      go_wp2_with fail
      refine HT.out.mono ?_; rintro _ _ ⟨rfl, rfl⟩
      go_wp2_with fail
      go_ret
      exact ⟨rfl, rfl⟩
  · have ht2 : isTB n = false := by rw [Bool.eq_false_iff]; exact ht
    have HI : inB x n = false := by unfold inB; rw [ht2]; rfl
    rw [ht2] at HT
    rw [HI]
    clear ht ht2 HI
    go_enter Tryz.func60, Tryz.ntmps60
    go_wp2_with fail
    refine HT.out.mono ?_; rintro _ _ ⟨rfl, rfl⟩
    go_wp2_with fail
    go_ret
    exact ⟨rfl, rfl⟩
theorem inB_1024 (x : Int) : inB x 1024 = decide (okN x) := by
  have h : isTB 1024 = true := isTB_yes 10 (by omega)
  unfold inB okN
  rw [h, Bool.true_and]
  by_cases h1 : 0 ≤ x
  · by_cases h2 : x ≤ 2046
    · rw [decide_eq_true h1, decide_eq_true (show x < 2 * 1024 - 1 by omega), decide_eq_true (show 0 ≤ x ∧ x ≤ 2046 from ⟨h1, h2⟩)]; rfl
    · rw [decide_eq_true h1, decide_eq_false (show ¬ x < 2 * 1024 - 1 by omega), decide_eq_false (show ¬ (0 ≤ x ∧ x ≤ 2046) from fun h => h2 h.2)]; rfl
  · rw [decide_eq_false h1, decide_eq_false (show ¬ (0 ≤ x ∧ x ≤ 2046) from fun h => h1 h.1)]; rfl
set_option maxHeartbeats 1000000 in
theorem mathLevel_same (x : Int) (w : World) (hT : Tab w) : Calls Tryz.prog 62 #[.int .i64 x] w fun e w' => e = .returned (.int .i64 (levV x)) ∧ w = w' := by
  have HN := Lib.hid (isNode_any x 1024 w)
  rw [inB_1024] at HN
  by_cases h : okN x
  · obtain ⟨j, q, rfl, hj, hq⟩ := (small_iff x).1 h
    have hb : 0 ≤ ((nd j q : Nat) : Int) ∧ ((nd j q : Nat) : Int) ≤ 2046 := h
    rw [decide_eq_true h] at HN
    have HZ := Lib.hid (tz_any (nd j q + 1) w (by omega) (by omega) hT)
    rw [ctz_nd j q hj] at HZ
    rw [levV_nd hj hq]
    have e1 : IntKind.u64.wrap ((nd j q : Nat) : Int) = ((nd j q : Nat) : Int) := by rw [IntKind.wrap_u64]; omega
    have e2 : IntKind.u64.wrap (((nd j q : Nat) : Int) + 1) = ((nd j q + 1 : Nat) : Int) := by rw [IntKind.wrap_u64]; omega
    generalize ((nd j q + 1 : Nat) : Int) = Y at *
    generalize ((nd j q : Nat) : Int) = X at *
    clear h hb hq hT
    go_enter Tryz.func62, Tryz.ntmps62
    go_wp2_with fail
    refine HN.out.mono ?_; rintro _ _ ⟨rfl, rfl⟩
    go_wp2_with fail
    refine HZ.out.mono ?_; rintro _ _ ⟨rfl, rfl⟩
    go_wp2_with fail
    go_ret
    exact ⟨rfl, rfl⟩
  · rw [decide_eq_false h] at HN
    rw [levV_no h]
    clear h hT
    go_enter Tryz.func62, Tryz.ntmps62
    go_wp2_with fail
    refine HN.out.mono ?_; rintro _ _ ⟨rfl, rfl⟩
    go_wp2_with fail
    go_ret
    exact ⟨rfl, rfl⟩
theorem gTab8 : Tryz.prog.globalNamed "math/bits.deBruijn64tab" = some 1 := by kernel_rfl
theorem gTabType8 : (Tryz.prog.globals[1]?).map (·.type) = some 111 := by kernel_rfl
theorem cellsTab8 : Tryz.prog.cellsOf 111 = 64 := by kernel_rfl
theorem cellsByte8 : Tryz.prog.cellsOf 5 = 1 := by kernel_rfl
theorem tab_laid {W : World} (h : laidMetH Tryz.prog [("math/bits.deBruijn32tab", Rows.laid_math_bits_deBruijn32tab), ("math/bits.deBruijn64tab", Rows.laid_math_bits_deBruijn64tab)] W) : Tab W := by
  have h1 : laidMet Tryz.prog [("math/bits.deBruijn32tab", Rows.laid_math_bits_deBruijn32tab), ("math/bits.deBruijn64tab", Rows.laid_math_bits_deBruijn64tab)] W := h
  have h2 := laidMet.tail h1
  have t : Lib.TabIs Tryz.prog W "math/bits.deBruijn64tab" .u8 (Lib.deBruijn64tab.map fun (n : Nat) => (n : Int)) :=
    Lib.tabIs_of_head (rest := []) gTab8 gTabType8 Tryz.underlying111 Tryz.underlying5 cellsByte8 cellsTab8 h2
  intro i hi
  have h3 := t.cell gTab8 i (by simpa using (show i < Lib.deBruijn64tab.length from hi))
  rw [h3]
  have hi2 : i < Lib.deBruijn64tab.length := hi
  simp [List.getD_eq_getElem?_getD, hi2]
def relaid (l : List Nat) : Obj → Obj
  | .cells _ t frozen => .cells (l.map fun (n : Nat) => (.int .u8 (n : Int) : Value)).toArray t frozen
  | o => o
noncomputable def laidWorld (os : Os) : World :=
  { World.holding Tryz.prog os ⟨#[], #[], []⟩ with heap := ((World.holding Tryz.prog os ⟨#[], #[], []⟩).heap.modify 0 (relaid Lib.deBruijn32tab)).modify 1 (relaid Lib.deBruijn64tab) }
end Go.Proofs.YtigpgcjbpoaclaaGreatDoor
