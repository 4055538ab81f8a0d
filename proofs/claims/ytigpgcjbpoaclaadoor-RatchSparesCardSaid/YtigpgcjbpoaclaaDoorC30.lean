import Derived.Test.YtigpgcjbpoaclaaDoorC7
import Derived.Test.YtigpgcjbpoaclaaDoorC8
set_option linter.unusedVariables false
set_option linter.unusedSimpArgs false
namespace Go.Proofs.YtigpgcjbpoaclaaDoor
open Go.RowKit
set_option maxHeartbeats 1000000 in
theorem mathWidth_same (n : Int) (w : World) : Calls Tryd.prog 24 #[.int .i64 n] w fun e w' => e = .returned (.tuple #[.int .i64 (widV n), .int .i64 (widE n)]) ∧ w = w' := by
  have HT := Lib.hid (isSize_any n w)
  by_cases ht : isTB n = true
  · have h1 := isTB_bounds ht
    have h2 : IntKind.i64.wrap (2 * n) = 2 * n := IntWalk.i64_in _ (by omega)
    have h3 : IntKind.i64.wrap (2 * n - 1) = 2 * n - 1 := IntWalk.i64_in _ (by omega)
    rw [show widV n = 2 * n - 1 from if_pos ht, show widE n = 0 from if_pos ht]
    rw [ht] at HT
    clear ht h1
    go_enter Tryd.func24, Tryd.ntmps24
    go_wp2_with fail
    refine HT.out.mono ?_; rintro _ _ ⟨rfl, rfl⟩
    go_wp2_with fail
    go_ret2
    exact ⟨rfl, rfl⟩
  · have ht2 : isTB n = false := by rw [Bool.eq_false_iff]; exact ht
    rw [show widV n = 0 from if_neg ht, show widE n = 1 from if_neg ht]
    rw [ht2] at HT
    clear ht ht2
    go_enter Tryd.func24, Tryd.ntmps24
    go_wp2_with fail
    refine HT.out.mono ?_; rintro _ _ ⟨rfl, rfl⟩
    go_wp2_with fail
    go_ret2
    exact ⟨rfl, rfl⟩
theorem p2_big {k : Nat} (h : k ≤ 10) : ((2 ^ k : Nat) : Int) ≤ 1024 ∧ 1 ≤ ((2 ^ k : Nat) : Int) := by have := p2_le h; have := p2_pos k; omega
theorem shl_one (k : Nat) (h : k ≤ 10) : IntKind.i64.wrap (1 * 2 ^ k) = ((2 ^ k : Nat) : Int) := by
  have h1 := p2_big h
  have e : (1 : Int) * 2 ^ k = ((2 ^ k : Nat) : Int) := by push_cast; omega
  rw [e]
  exact IntWalk.i64_in _ (by omega)
theorem shl_pow (k : Nat) (h : k ≤ 10) : IntKind.i64.wrap (2 ^ k) = ((2 ^ k : Nat) : Int) := by
  have := shl_one k h
  rwa [Int.one_mul] at this
theorem shl_neg (k : Nat) (h : k ≤ 10) : IntKind.i64.wrap (-1 * 2 ^ k) = -((2 ^ k : Nat) : Int) := by
  have h1 := p2_big h
  have e : (-1 : Int) * 2 ^ k = -((2 ^ k : Nat) : Int) := by push_cast; omega
  rw [e]
  exact IntWalk.i64_in _ (by omega)
set_option maxHeartbeats 1000000 in
theorem child_yes (j q : Nat) (s : Int) (w : World) (hj : j + 1 ≤ 10) (hq : q < 2 ^ (10 - (j + 1))) (hs : s = 1 ∨ s = -1) (hT : Tab w) :
    Calls Tryd.prog 54 #[.int .i64 ((nd (j + 1) q : Nat) : Int), .int .i64 s] w fun e w' => e = .returned (.tuple #[.int .i64 (((nd (j + 1) q : Nat) : Int) + s * ((2 ^ j : Nat) : Int)), .int .i64 0]) ∧ w = w' := by
  have HL := Lib.hid (mathLevel_same ((nd (j + 1) q : Nat) : Int) w hT)
  rw [levV_nd hj hq] at HL
  have hx := (small_iff ((nd (j + 1) q : Nat) : Int)).2 ⟨j + 1, q, rfl, hj, hq⟩
  obtain ⟨b1, b2⟩ := p2_big (k := j) (by omega)
  have e1 : IntKind.i64.wrap (((j + 1 : Nat) : Int) - 1) = (j : Int) := by rw [IntWalk.i64_in _ (by omega)]; omega
  have e0 : ¬ ((j + 1 : Nat) : Int) = 0 := by omega
  have e0' : (((j + 1 : Nat) : Int) == 0) = false := beq_eq_false_iff_ne.2 e0
  have e3 : IntKind.i64.wrap (s * 2 ^ j) = s * ((2 ^ j : Nat) : Int) := by
    rcases hs with rfl | rfl
    · rw [shl_one j (by omega)]; omega
    · rw [shl_neg j (by omega)]; omega
  have e4 : IntKind.i64.wrap (((nd (j + 1) q : Nat) : Int) + s * ((2 ^ j : Nat) : Int)) = ((nd (j + 1) q : Nat) : Int) + s * ((2 ^ j : Nat) : Int) := IntWalk.i64_in _ (by rcases hs with rfl | rfl <;> omega)
  have e5 : ((j : Int)).toNat = j := Int.toNat_natCast j
  have e6 : (j : Int) ≤ 64 := by omega
  generalize s * ((2 ^ j : Nat) : Int) = M at *
  generalize ((j + 1 : Nat) : Int) = J1 at *
  generalize ((nd (j + 1) q : Nat) : Int) = X at *
  clear hx hq hj hT b1 b2 hs
  go_enter Tryd.func54, Tryd.ntmps54
  go_wp2_with fail
  refine HL.out.mono ?_; rintro _ _ ⟨rfl, rfl⟩
  go_wp2_with fail
  go_ret2
  exact ⟨rfl, rfl⟩
set_option maxHeartbeats 1000000 in
theorem child_no (x s : Int) (w : World) (h : levV x = 0) (hT : Tab w) :
    Calls Tryd.prog 54 #[.int .i64 x, .int .i64 s] w fun e w' => e = .returned (.tuple #[.int .i64 0, .int .i64 1]) ∧ w = w' := by
  have HL := Lib.hid (mathLevel_same x w hT)
  rw [h] at HL
  clear h hT
  go_enter Tryd.func54, Tryd.ntmps54
  go_wp2_with fail
  refine HL.out.mono ?_; rintro _ _ ⟨rfl, rfl⟩
  go_wp2_with fail
  go_ret2
  exact ⟨rfl, rfl⟩
theorem level_cases (x : Int) : levV x = 0 ∨ ∃ j q, x = ((nd (j + 1) q : Nat) : Int) ∧ j + 1 ≤ 10 ∧ q < 2 ^ (10 - (j + 1)) := by
  by_cases h : okN x
  · obtain ⟨j, q, rfl, hj, hq⟩ := (small_iff x).1 h
    cases j with
    | zero => exact .inl (levV_nd hj hq)
    | succ j => exact .inr ⟨j, q, rfl, hj, hq⟩
  · exact .inl (levV_no h)
set_option maxHeartbeats 1000000 in
theorem mathLeft_same (x : Int) (w : World) (hT : Tab w) : Calls Tryd.prog 42 #[.int .i64 x] w fun e w' => e = .returned (.tuple #[.int .i64 (lefV x), .int .i64 (chE x)]) ∧ w = w' := by
  have H : Hid (Calls Tryd.prog 54 #[.int .i64 x, .int .i64 (-1)] w fun e w' => e = .returned (.tuple #[.int .i64 (lefV x), .int .i64 (chE x)]) ∧ w = w') := by
    rcases level_cases x with h | ⟨j, q, rfl, hj, hq⟩
    · have h1 : lefV x = 0 := if_pos h
      have h2 : chE x = 1 := if_pos h
      rw [h1, h2]
      exact child_no x (-1) w h hT
    · obtain ⟨h1, h2, _⟩ := ch_yes hj hq
      obtain ⟨h3, h4⟩ := nd_left j q
      have := child_yes j q (-1) w hj hq (.inr rfl) hT
      rw [h1, h2]
      rwa [show ((nd (j + 1) q : Nat) : Int) + -1 * ((2 ^ j : Nat) : Int) = ((nd j (2 * q) : Nat) : Int) by omega] at this
  clear hT
  go_enter Tryd.func42, Tryd.ntmps42
  go_wp2_with fail
  refine H.out.mono ?_; rintro _ _ ⟨rfl, rfl⟩
  go_wp2_with fail
  go_ret2
  exact ⟨rfl, rfl⟩
set_option maxHeartbeats 1000000 in
theorem parent_any (j q : Nat) (w : World) (hj : j < 10) (hq : q < 2 ^ (10 - j)) (hT : Tab w) :
    Calls Tryd.prog 52 #[.int .i64 ((nd j q : Nat) : Int)] w fun e w' => e = .returned (.int .i64 ((nd (j + 1) (q / 2) : Nat) : Int)) ∧ w = w' := by
  have HL := Lib.hid (mathLevel_same ((nd j q : Nat) : Int) w hT)
  rw [levV_nd (by omega) hq] at HL
  have hx := (small_iff ((nd j q : Nat) : Int)).2 ⟨j, q, rfl, by omega, hq⟩
  obtain ⟨b1, b2⟩ := p2_big (k := j) (by omega)
  have e1 := shl_pow j (by omega)
  have e2 : IntKind.i64.wrap (2 * ((2 ^ j : Nat) : Int)) = ((2 ^ (j + 1) : Nat) : Int) := by rw [p2_succ, IntWalk.i64_in _ (by omega)]; omega
  have e3 := bits_and_i64_nat8 (nd j q) (2 ^ (j + 1)) (by omega) (by rw [p2_succ]; omega)
  rw [side_bit] at e3
  have e5 : ((j : Int)).toNat = j := Int.toNat_natCast j
  have e6 : (j : Int) ≤ 64 := by omega
  by_cases h : q % 2 = 0
  · have h1 := up_left j q h
    have e4 : IntKind.i64.wrap (((nd j q : Nat) : Int) + ((2 ^ j : Nat) : Int)) = ((nd (j + 1) (q / 2) : Nat) : Int) := by rw [IntWalk.i64_in _ (by omega)]; omega
    rw [if_pos h] at e3
    generalize ((nd (j + 1) (q / 2) : Nat) : Int) = Y at *
    generalize ((2 ^ (j + 1) : Nat) : Int) = B at *
    generalize ((nd j q : Nat) : Int) = X at *
    generalize ((2 ^ j : Nat) : Int) = A at *
    clear hx hq hj hT b1 b2 h h1
    go_enter Tryd.func52, Tryd.ntmps52
    go_wp2_with fail
    refine HL.out.mono ?_; rintro _ _ ⟨rfl, rfl⟩
    go_wp2_with fail
    go_ret
    exact ⟨rfl, rfl⟩
  · obtain ⟨h1, h2⟩ := up_right j q h
    have e4 : IntKind.i64.wrap (((nd j q : Nat) : Int) - ((2 ^ j : Nat) : Int)) = ((nd (j + 1) (q / 2) : Nat) : Int) := by rw [IntWalk.i64_in _ (by omega)]; omega
    rw [if_neg h] at e3
    have e7 : (((2 ^ (j + 1) : Nat) : Int) == 0) = false := beq_eq_false_iff_ne.2 (by have := p2_pos (j + 1); omega)
    generalize ((nd (j + 1) (q / 2) : Nat) : Int) = Y at *
    generalize ((2 ^ (j + 1) : Nat) : Int) = B at *
    generalize ((nd j q : Nat) : Int) = X at *
    generalize ((2 ^ j : Nat) : Int) = A at *
    clear hx hq hj hT b1 b2 h h1 h2
    go_enter Tryd.func52, Tryd.ntmps52
    go_wp2_with fail
    refine HL.out.mono ?_; rintro _ _ ⟨rfl, rfl⟩
    go_wp2_with fail
    go_ret
    exact ⟨rfl, rfl⟩
set_option maxHeartbeats 1000000 in
theorem root_any (n : Int) (w : World) (hn : -9223372036854775807 ≤ n ∧ n ≤ 9223372036854775807) : Calls Tryd.prog 62 #[.int .i64 n] w fun e w' => e = .returned (.int .i64 (n - 1)) ∧ w = w' := by
  have e1 : IntKind.i64.wrap (n - 1) = n - 1 := IntWalk.i64_in _ (by omega)
  go_enter Tryd.func62, Tryd.ntmps62
  go_wp2_with fail
  go_ret
  exact ⟨rfl, rfl⟩
set_option maxHeartbeats 1000000 in
theorem hasParent_any (x n : Int) (w : World) : Calls Tryd.prog 51 #[.int .i64 x, .int .i64 n] w fun e w' => e = .returned (.int .i64 (paE x n)) ∧ w = w' := by
  have HN := Lib.hid (isNode_any x n w)
  by_cases h : inB x n = true
  · rw [h] at HN
    have hb : 1 ≤ n ∧ n ≤ 1024 := isTB_bounds (by unfold inB at h; simp at h; exact h.1)
    have HR := Lib.hid (root_any n w (by omega))
    by_cases hr : x = n - 1
    · rw [show paE x n = 11 by unfold paE; rw [if_pos h, if_pos hr]]
      have hr2 : (x == n - 1) = true := by rw [hr]; exact beq_self_eq_true _
      clear h hb hr
      go_enter Tryd.func51, Tryd.ntmps51
      go_wp2_with fail
      refine HN.out.mono ?_; rintro _ _ ⟨rfl, rfl⟩
      go_wp2_with fail
      refine HR.out.mono ?_; rintro _ _ ⟨rfl, rfl⟩
      go_wp2_with fail
      go_ret
      exact ⟨rfl, rfl⟩
    · rw [show paE x n = 0 by unfold paE; rw [if_pos h, if_neg hr]]
      have hr2 : (x == n - 1) = false := beq_eq_false_iff_ne.2 hr
      clear h hb hr
      go_enter Tryd.func51, Tryd.ntmps51
      go_wp2_with fail
      refine HN.out.mono ?_; rintro _ _ ⟨rfl, rfl⟩
      go_wp2_with fail
      refine HR.out.mono ?_; rintro _ _ ⟨rfl, rfl⟩
      go_wp2_with fail
      go_ret
      exact ⟨rfl, rfl⟩
  · rw [show paE x n = 1 from if_neg h]
    have h2 : inB x n = false := by rw [Bool.eq_false_iff]; exact h
    rw [h2] at HN
    clear h h2
    go_enter Tryd.func51, Tryd.ntmps51
    go_wp2_with fail
    refine HN.out.mono ?_; rintro _ _ ⟨rfl, rfl⟩
    go_wp2_with fail
    go_ret
    exact ⟨rfl, rfl⟩
theorem pa_cases (x n : Int) : (paE x n ≠ 0 ∧ paV x n = 0 ∧ siV x n = 0) ∨ ∃ K j q, K ≤ 10 ∧ j < K ∧ q < 2 ^ (K - j) ∧ x = ((nd j q : Nat) : Int) ∧ n = ((2 ^ K : Nat) : Int) := by
  by_cases h : inB x n = true
  · obtain ⟨K, j, q, hK, rfl, rfl, hj, hq⟩ := (inB_iff x n).1 h
    by_cases hjK : j < K
    · exact .inr ⟨K, j, q, hK, hjK, hq, rfl, rfl⟩
    · obtain rfl : j = K := by omega
      obtain rfl : q = 0 := by simpa using hq
      obtain ⟨e1, e2, e3⟩ := pa_root hK
      exact .inl ⟨by rw [e1]; decide, e2, e3⟩
  · obtain ⟨e1, e2, e3⟩ := pa_no h
    exact .inl ⟨by rw [e1]; decide, e2, e3⟩
theorem q_big {K j q : Nat} (hK : K ≤ 10) (hq : q < 2 ^ (K - j)) : q < 2 ^ (10 - j) := Nat.lt_of_lt_of_le hq (Nat.pow_le_pow_right (by omega) (by omega))
set_option maxHeartbeats 1000000 in
theorem mathParent_same (x n : Int) (w : World) (hT : Tab w) : Calls Tryd.prog 40 #[.int .i64 x, .int .i64 n] w fun e w' => e = .returned (.tuple #[.int .i64 (paV x n), .int .i64 (paE x n)]) ∧ w = w' := by
  have HP := Lib.hid (hasParent_any x n w)
  rcases pa_cases x n with ⟨h1, h2, _⟩ | ⟨K, j, q, hK, hj, hq, rfl, rfl⟩
  · rw [h2]
    have h3 : (paE x n == 0) = false := beq_eq_false_iff_ne.2 h1
    generalize paE x n = E at *
    clear h2 hT
    go_enter Tryd.func40, Tryd.ntmps40
    go_wp2_with fail
    refine HP.out.mono ?_; rintro _ _ ⟨rfl, rfl⟩
    go_wp2_with fail
    go_ret2
    exact ⟨rfl, rfl⟩
  · obtain ⟨e1, e2, _⟩ := pa_yes hK hj hq
    rw [e1] at HP
    rw [e1, e2]
    have HQ := Lib.hid (parent_any j q w (by omega) (q_big hK hq) hT)
    generalize ((2 ^ K : Nat) : Int) = N at *
    generalize ((nd j q : Nat) : Int) = X at *
    clear e1 e2 hT hq hj
    go_enter Tryd.func40, Tryd.ntmps40
    go_wp2_with fail
    refine HP.out.mono ?_; rintro _ _ ⟨rfl, rfl⟩
    go_wp2_with fail
    refine HQ.out.mono ?_; rintro _ _ ⟨rfl, rfl⟩
    go_wp2_with fail
    go_ret2
    exact ⟨rfl, rfl⟩
end Go.Proofs.YtigpgcjbpoaclaaDoor
