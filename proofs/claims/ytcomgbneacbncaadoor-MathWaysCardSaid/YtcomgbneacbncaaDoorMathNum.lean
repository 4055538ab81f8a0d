/- math's calls without a way: Width, Left, Right, Parent, Sibling, Leaves; what they stand on. -/
import Derived.Test.YtcomgbneacbncaaDoorMathTab
import Derived.Test.YtcomgbneacbncaaDoorRefMathB
set_option linter.unusedVariables false
set_option linter.unusedSimpArgs false
namespace Go.Proofs.YtcomgbneacbncaaDoor
open Go.RowKit

set_option maxHeartbeats 1000000 in
theorem mathWidth_same (n : Int) (w : World) : Calls Tryd.prog 11 #[.int .i64 n] w fun e w' => e = .returned (.tuple #[.int .i64 (widV n), .int .i64 (widE n)]) ∧ w = w' := by
  have HT := Lib.hid (isSize_any n w)
  by_cases ht : isTB n = true
  · have h1 := isTB_bounds ht
    have h2 : IntKind.i64.wrap (2 * n) = 2 * n := IntWalk.i64_in _ (by omega)
    have h3 : IntKind.i64.wrap (2 * n - 1) = 2 * n - 1 := IntWalk.i64_in _ (by omega)
    rw [show widV n = 2 * n - 1 from if_pos ht, show widE n = 0 from if_pos ht]
    rw [ht] at HT
    clear ht h1
    go_enter Tryd.func11, Tryd.ntmps11
    go_wp2_with fail
    refine HT.out.mono ?_; rintro _ _ ⟨rfl, rfl⟩
    go_wp2_with fail
    go_ret2
    exact ⟨rfl, rfl⟩
  · have ht2 : isTB n = false := by rw [Bool.eq_false_iff]; exact ht
    rw [show widV n = 0 from if_neg ht, show widE n = 1 from if_neg ht]
    rw [ht2] at HT
    clear ht ht2
    go_enter Tryd.func11, Tryd.ntmps11
    go_wp2_with fail
    refine HT.out.mono ?_; rintro _ _ ⟨rfl, rfl⟩
    go_wp2_with fail
    go_ret2
    exact ⟨rfl, rfl⟩
theorem p2_big {k : Nat} (h : k ≤ 10) : ((2 ^ k : Nat) : Int) ≤ 1024 ∧ 1 ≤ ((2 ^ k : Nat) : Int) := by have := p2_le h; have := p2_pos k; omega
theorem shl_one (k : Nat) (h : k ≤ 10) : IntKind.i64.wrap (1 * 2 ^ k) = ((2 ^ k : Nat) : Int) := by
  have h1 := p2_big h
  have e : (1 : Int) * 2 ^ k = ((2 ^ k : Nat) : Int) := by push_cast; omega
  rw [e]
  exact IntWalk.i64_in _ (by omega)
theorem shl_pow (k : Nat) (h : k ≤ 10) : IntKind.i64.wrap (2 ^ k) = ((2 ^ k : Nat) : Int) := by
  have := shl_one k h
  rwa [Int.one_mul] at this
theorem shl_neg (k : Nat) (h : k ≤ 10) : IntKind.i64.wrap (-1 * 2 ^ k) = -((2 ^ k : Nat) : Int) := by
  have h1 := p2_big h
  have e : (-1 : Int) * 2 ^ k = -((2 ^ k : Nat) : Int) := by push_cast; omega
  rw [e]
  exact IntWalk.i64_in _ (by omega)

set_option maxHeartbeats 1000000 in
/-- child, at a node above the leaves. -/
theorem child_yes (j q : Nat) (s : Int) (w : World) (hj : j + 1 ≤ 10) (hq : q < 2 ^ (10 - (j + 1))) (hs : s = 1 ∨ s = -1) (hT : Tab w) :
    Calls Tryd.prog 35 #[.int .i64 ((nd (j + 1) q : Nat) : Int), .int .i64 s] w fun e w' => e = .returned (.tuple #[.int .i64 (((nd (j + 1) q : Nat) : Int) + s * ((2 ^ j : Nat) : Int)), .int .i64 0]) ∧ w = w' := by
  have HL := Lib.hid (mathLevel_same ((nd (j + 1) q : Nat) : Int) w hT)
  rw [levV_nd hj hq] at HL
  have hx := (small_iff ((nd (j + 1) q : Nat) : Int)).2 ⟨j + 1, q, rfl, hj, hq⟩
  obtain ⟨b1, b2⟩ := p2_big (k := j) (by omega)
  have e1 : IntKind.i64.wrap (((j + 1 : Nat) : Int) - 1) = (j : Int) := by rw [IntWalk.i64_in _ (by omega)]; omega
  have e0 : ¬ ((j + 1 : Nat) : Int) = 0 := by omega
  have e0' : (((j + 1 : Nat) : Int) == 0) = false := beq_eq_false_iff_ne.2 e0
  have e3 : IntKind.i64.wrap (s * 2 ^ j) = s * ((2 ^ j : Nat) : Int) := by
    rcases hs with rfl | rfl
    · rw [shl_one j (by omega)]; omega
    · rw [shl_neg j (by omega)]; omega
  have e4 : IntKind.i64.wrap (((nd (j + 1) q : Nat) : Int) + s * ((2 ^ j : Nat) : Int)) = ((nd (j + 1) q : Nat) : Int) + s * ((2 ^ j : Nat) : Int) := IntWalk.i64_in _ (by rcases hs with rfl | rfl <;> omega)
  have e5 : ((j : Int)).toNat = j := Int.toNat_natCast j
  have e6 : (j : Int) ≤ 64 := by omega
  generalize s * ((2 ^ j : Nat) : Int) = M at *
  generalize ((j + 1 : Nat) : Int) = J1 at *
  generalize ((nd (j + 1) q : Nat) : Int) = X at *
  clear hx hq hj hT b1 b2 hs
  go_enter Tryd.func35, Tryd.ntmps35
  go_wp2_with fail
  refine HL.out.mono ?_; rintro _ _ ⟨rfl, rfl⟩
  go_wp2_with fail
  go_ret2
  exact ⟨rfl, rfl⟩
set_option maxHeartbeats 1000000 in
theorem child_no (x s : Int) (w : World) (h : levV x = 0) (hT : Tab w) :
    Calls Tryd.prog 35 #[.int .i64 x, .int .i64 s] w fun e w' => e = .returned (.tuple #[.int .i64 0, .int .i64 1]) ∧ w = w' := by
  have HL := Lib.hid (mathLevel_same x w hT)
  rw [h] at HL
  clear h hT
  go_enter Tryd.func35, Tryd.ntmps35
  go_wp2_with fail
  refine HL.out.mono ?_; rintro _ _ ⟨rfl, rfl⟩
  go_wp2_with fail
  go_ret2
  exact ⟨rfl, rfl⟩
theorem level_cases (x : Int) : levV x = 0 ∨ ∃ j q, x = ((nd (j + 1) q : Nat) : Int) ∧ j + 1 ≤ 10 ∧ q < 2 ^ (10 - (j + 1)) := by
  by_cases h : okN x
  · obtain ⟨j, q, rfl, hj, hq⟩ := (small_iff x).1 h
    cases j with
    | zero => exact .inl (levV_nd hj hq)
    | succ j => exact .inr ⟨j, q, rfl, hj, hq⟩
  · exact .inl (levV_no h)
set_option maxHeartbeats 1000000 in
theorem mathLeft_same (x : Int) (w : World) (hT : Tab w) : Calls Tryd.prog 13 #[.int .i64 x] w fun e w' => e = .returned (.tuple #[.int .i64 (lefV x), .int .i64 (chE x)]) ∧ w = w' := by
  have H : Hid (Calls Tryd.prog 35 #[.int .i64 x, .int .i64 (-1)] w fun e w' => e = .returned (.tuple #[.int .i64 (lefV x), .int .i64 (chE x)]) ∧ w = w') := by
    rcases level_cases x with h | ⟨j, q, rfl, hj, hq⟩
    · have h1 : lefV x = 0 := if_pos h
      have h2 : chE x = 1 := if_pos h
      rw [h1, h2]
      exact child_no x (-1) w h hT
    · obtain ⟨h1, h2, _⟩ := ch_yes hj hq
      obtain ⟨h3, h4⟩ := nd_left j q
      have := child_yes j q (-1) w hj hq (.inr rfl) hT
      rw [h1, h2]
      rwa [show ((nd (j + 1) q : Nat) : Int) + -1 * ((2 ^ j : Nat) : Int) = ((nd j (2 * q) : Nat) : Int) by omega] at this
  clear hT
  go_enter Tryd.func13, Tryd.ntmps13
  go_wp2_with fail
  refine H.out.mono ?_; rintro _ _ ⟨rfl, rfl⟩
  go_wp2_with fail
  go_ret2
  exact ⟨rfl, rfl⟩
set_option maxHeartbeats 1000000 in
theorem mathRight_same (x : Int) (w : World) (hT : Tab w) : Calls Tryd.prog 15 #[.int .i64 x] w fun e w' => e = .returned (.tuple #[.int .i64 (rigV x), .int .i64 (chE x)]) ∧ w = w' := by
  have H : Hid (Calls Tryd.prog 35 #[.int .i64 x, .int .i64 1] w fun e w' => e = .returned (.tuple #[.int .i64 (rigV x), .int .i64 (chE x)]) ∧ w = w') := by
    rcases level_cases x with h | ⟨j, q, rfl, hj, hq⟩
    · have h1 : rigV x = 0 := if_pos h
      have h2 : chE x = 1 := if_pos h
      rw [h1, h2]
      exact child_no x 1 w h hT
    · obtain ⟨h1, _, h2⟩ := ch_yes hj hq
      have h3 := nd_right j q
      have := child_yes j q 1 w hj hq (.inl rfl) hT
      rw [h1, h2]
      rwa [show ((nd (j + 1) q : Nat) : Int) + 1 * ((2 ^ j : Nat) : Int) = ((nd j (2 * q + 1) : Nat) : Int) by omega] at this
  clear hT
  go_enter Tryd.func15, Tryd.ntmps15
  go_wp2_with fail
  refine H.out.mono ?_; rintro _ _ ⟨rfl, rfl⟩
  go_wp2_with fail
  go_ret2
  exact ⟨rfl, rfl⟩

set_option maxHeartbeats 1000000 in
/-- parent, of a node of the greatest tree but its root. -/
theorem parent_any (j q : Nat) (w : World) (hj : j < 10) (hq : q < 2 ^ (10 - j)) (hT : Tab w) :
    Calls Tryd.prog 40 #[.int .i64 ((nd j q : Nat) : Int)] w fun e w' => e = .returned (.int .i64 ((nd (j + 1) (q / 2) : Nat) : Int)) ∧ w = w' := by
  have HL := Lib.hid (mathLevel_same ((nd j q : Nat) : Int) w hT)
  rw [levV_nd (by omega) hq] at HL
  have hx := (small_iff ((nd j q : Nat) : Int)).2 ⟨j, q, rfl, by omega, hq⟩
  obtain ⟨b1, b2⟩ := p2_big (k := j) (by omega)
  have e1 := shl_pow j (by omega)
  have e2 : IntKind.i64.wrap (2 * ((2 ^ j : Nat) : Int)) = ((2 ^ (j + 1) : Nat) : Int) := by rw [p2_succ, IntWalk.i64_in _ (by omega)]; omega
  have e3 := bits_and_i64_nat8 (nd j q) (2 ^ (j + 1)) (by omega) (by rw [p2_succ]; omega)
  rw [side_bit] at e3
  have e5 : ((j : Int)).toNat = j := Int.toNat_natCast j
  have e6 : (j : Int) ≤ 64 := by omega
  by_cases h : q % 2 = 0
  · have h1 := up_left j q h
    have e4 : IntKind.i64.wrap (((nd j q : Nat) : Int) + ((2 ^ j : Nat) : Int)) = ((nd (j + 1) (q / 2) : Nat) : Int) := by rw [IntWalk.i64_in _ (by omega)]; omega
    rw [if_pos h] at e3
    generalize ((nd (j + 1) (q / 2) : Nat) : Int) = Y at *
    generalize ((2 ^ (j + 1) : Nat) : Int) = B at *
    generalize ((nd j q : Nat) : Int) = X at *
    generalize ((2 ^ j : Nat) : Int) = A at *
    clear hx hq hj hT b1 b2 h h1
    go_enter Tryd.func40, Tryd.ntmps40
    go_wp2_with fail
    refine HL.out.mono ?_; rintro _ _ ⟨rfl, rfl⟩
    go_wp2_with fail
    go_ret
    exact ⟨rfl, rfl⟩
  · obtain ⟨h1, h2⟩ := up_right j q h
    have e4 : IntKind.i64.wrap (((nd j q : Nat) : Int) - ((2 ^ j : Nat) : Int)) = ((nd (j + 1) (q / 2) : Nat) : Int) := by rw [IntWalk.i64_in _ (by omega)]; omega
    rw [if_neg h] at e3
    have e7 : (((2 ^ (j + 1) : Nat) : Int) == 0) = false := beq_eq_false_iff_ne.2 (by have := p2_pos (j + 1); omega)
    generalize ((nd (j + 1) (q / 2) : Nat) : Int) = Y at *
    generalize ((2 ^ (j + 1) : Nat) : Int) = B at *
    generalize ((nd j q : Nat) : Int) = X at *
    generalize ((2 ^ j : Nat) : Int) = A at *
    clear hx hq hj hT b1 b2 h h1 h2
    go_enter Tryd.func40, Tryd.ntmps40
    go_wp2_with fail
    refine HL.out.mono ?_; rintro _ _ ⟨rfl, rfl⟩
    go_wp2_with fail
    go_ret
    exact ⟨rfl, rfl⟩
set_option maxHeartbeats 1000000 in
theorem root_any (n : Int) (w : World) (hn : -9223372036854775807 ≤ n ∧ n ≤ 9223372036854775807) : Calls Tryd.prog 48 #[.int .i64 n] w fun e w' => e = .returned (.int .i64 (n - 1)) ∧ w = w' := by
  have e1 : IntKind.i64.wrap (n - 1) = n - 1 := IntWalk.i64_in _ (by omega)
  go_enter Tryd.func48, Tryd.ntmps48
  go_wp2_with fail
  go_ret
  exact ⟨rfl, rfl⟩
set_option maxHeartbeats 1000000 in
theorem hasParent_any (x n : Int) (w : World) : Calls Tryd.prog 39 #[.int .i64 x, .int .i64 n] w fun e w' => e = .returned (.int .i64 (paE x n)) ∧ w = w' := by
  have HN := Lib.hid (isNode_any x n w)
  by_cases h : inB x n = true
  · rw [h] at HN
    have hb : 1 ≤ n ∧ n ≤ 1024 := isTB_bounds (by unfold inB at h; simp at h; exact h.1)
    have HR := Lib.hid (root_any n w (by omega))
    by_cases hr : x = n - 1
    · rw [show paE x n = 11 by unfold paE; rw [if_pos h, if_pos hr]]
      have hr2 : (x == n - 1) = true := by rw [hr]; exact beq_self_eq_true _
      clear h hb hr
      go_enter Tryd.func39, Tryd.ntmps39
      go_wp2_with fail
      refine HN.out.mono ?_; rintro _ _ ⟨rfl, rfl⟩
      go_wp2_with fail
      refine HR.out.mono ?_; rintro _ _ ⟨rfl, rfl⟩
      go_wp2_with fail
      go_ret
      exact ⟨rfl, rfl⟩
    · rw [show paE x n = 0 by unfold paE; rw [if_pos h, if_neg hr]]
      have hr2 : (x == n - 1) = false := beq_eq_false_iff_ne.2 hr
      clear h hb hr
      go_enter Tryd.func39, Tryd.ntmps39
      go_wp2_with fail
      refine HN.out.mono ?_; rintro _ _ ⟨rfl, rfl⟩
      go_wp2_with fail
      refine HR.out.mono ?_; rintro _ _ ⟨rfl, rfl⟩
      go_wp2_with fail
      go_ret
      exact ⟨rfl, rfl⟩
  · rw [show paE x n = 1 from if_neg h]
    have h2 : inB x n = false := by rw [Bool.eq_false_iff]; exact h
    rw [h2] at HN
    clear h h2
    go_enter Tryd.func39, Tryd.ntmps39
    go_wp2_with fail
    refine HN.out.mono ?_; rintro _ _ ⟨rfl, rfl⟩
    go_wp2_with fail
    go_ret
    exact ⟨rfl, rfl⟩
/-- A node with a parent. -/
theorem pa_cases (x n : Int) : (paE x n ≠ 0 ∧ paV x n = 0 ∧ siV x n = 0) ∨ ∃ K j q, K ≤ 10 ∧ j < K ∧ q < 2 ^ (K - j) ∧ x = ((nd j q : Nat) : Int) ∧ n = ((2 ^ K : Nat) : Int) := by
  by_cases h : inB x n = true
  · obtain ⟨K, j, q, hK, rfl, rfl, hj, hq⟩ := (inB_iff x n).1 h
    by_cases hjK : j < K
    · exact .inr ⟨K, j, q, hK, hjK, hq, rfl, rfl⟩
    · obtain rfl : j = K := by omega
      obtain rfl : q = 0 := by simpa using hq
      obtain ⟨e1, e2, e3⟩ := pa_root hK
      exact .inl ⟨by rw [e1]; decide, e2, e3⟩
  · obtain ⟨e1, e2, e3⟩ := pa_no h
    exact .inl ⟨by rw [e1]; decide, e2, e3⟩
theorem q_big {K j q : Nat} (hK : K ≤ 10) (hq : q < 2 ^ (K - j)) : q < 2 ^ (10 - j) := Nat.lt_of_lt_of_le hq (Nat.pow_le_pow_right (by omega) (by omega))
set_option maxHeartbeats 1000000 in
theorem mathParent_same (x n : Int) (w : World) (hT : Tab w) : Calls Tryd.prog 19 #[.int .i64 x, .int .i64 n] w fun e w' => e = .returned (.tuple #[.int .i64 (paV x n), .int .i64 (paE x n)]) ∧ w = w' := by
  have HP := Lib.hid (hasParent_any x n w)
  rcases pa_cases x n with ⟨h1, h2, _⟩ | ⟨K, j, q, hK, hj, hq, rfl, rfl⟩
  · rw [h2]
    have h3 : (paE x n == 0) = false := beq_eq_false_iff_ne.2 h1
    generalize paE x n = E at *
    clear h2 hT
    go_enter Tryd.func19, Tryd.ntmps19
    go_wp2_with fail
    refine HP.out.mono ?_; rintro _ _ ⟨rfl, rfl⟩
    go_wp2_with fail
    go_ret2
    exact ⟨rfl, rfl⟩
  · obtain ⟨e1, e2, _⟩ := pa_yes hK hj hq
    rw [e1] at HP
    rw [e1, e2]
    have HQ := Lib.hid (parent_any j q w (by omega) (q_big hK hq) hT)
    generalize ((2 ^ K : Nat) : Int) = N at *
    generalize ((nd j q : Nat) : Int) = X at *
    clear e1 e2 hT hq hj
    go_enter Tryd.func19, Tryd.ntmps19
    go_wp2_with fail
    refine HP.out.mono ?_; rintro _ _ ⟨rfl, rfl⟩
    go_wp2_with fail
    refine HQ.out.mono ?_; rintro _ _ ⟨rfl, rfl⟩
    go_wp2_with fail
    go_ret2
    exact ⟨rfl, rfl⟩
set_option maxHeartbeats 1000000 in
/-- sibling: of a child and its parent. -/
theorem sibling_any (j q : Nat) (w : World) (hj : j < 10) (hq : q < 2 ^ (10 - j)) :
    Calls Tryd.prog 42 #[.int .i64 ((nd j q : Nat) : Int), .int .i64 ((nd (j + 1) (q / 2) : Nat) : Int)] w fun e w' => e = .returned (.int .i64 ((nd j (sq q) : Nat) : Int)) ∧ w = w' := by
  have h1 := sib_sum j q
  have hx := (small_iff ((nd j q : Nat) : Int)).2 ⟨j, q, rfl, by omega, hq⟩
  have hy := (small_iff ((nd (j + 1) (q / 2) : Nat) : Int)).2 ⟨j + 1, q / 2, rfl, by omega, by
    have : 2 ^ (10 - j) = 2 * 2 ^ (10 - (j + 1)) := by rw [show 10 - j = (10 - (j + 1)) + 1 by omega, p2_succ]
    omega⟩
  have e1 : IntKind.i64.wrap (2 * ((nd (j + 1) (q / 2) : Nat) : Int)) = 2 * ((nd (j + 1) (q / 2) : Nat) : Int) := IntWalk.i64_in _ (by omega)
  have e2 : IntKind.i64.wrap (2 * ((nd (j + 1) (q / 2) : Nat) : Int) - ((nd j q : Nat) : Int)) = ((nd j (sq q) : Nat) : Int) := by rw [IntWalk.i64_in _ (by omega)]; omega
  generalize ((nd (j + 1) (q / 2) : Nat) : Int) = Y at *
  generalize ((nd j q : Nat) : Int) = X at *
  generalize ((nd j (sq q) : Nat) : Int) = Z at *
  clear h1 hx hy hq hj
  go_enter Tryd.func42, Tryd.ntmps42
  go_wp2_with fail
  go_ret
  exact ⟨rfl, rfl⟩
set_option maxHeartbeats 1000000 in
theorem mathSibling_same (x n : Int) (w : World) (hT : Tab w) : Calls Tryd.prog 21 #[.int .i64 x, .int .i64 n] w fun e w' => e = .returned (.tuple #[.int .i64 (siV x n), .int .i64 (paE x n)]) ∧ w = w' := by
  have HP := Lib.hid (hasParent_any x n w)
  rcases pa_cases x n with ⟨h1, _, h2⟩ | ⟨K, j, q, hK, hj, hq, rfl, rfl⟩
  · rw [h2]
    have h3 : (paE x n == 0) = false := beq_eq_false_iff_ne.2 h1
    generalize paE x n = E at *
    clear h2 hT
    go_enter Tryd.func21, Tryd.ntmps21
    go_wp2_with fail
    refine HP.out.mono ?_; rintro _ _ ⟨rfl, rfl⟩
    go_wp2_with fail
    go_ret2
    exact ⟨rfl, rfl⟩
  · obtain ⟨e1, _, e2⟩ := pa_yes hK hj hq
    rw [e1] at HP
    rw [e1, e2]
    have HQ := Lib.hid (parent_any j q w (by omega) (q_big hK hq) hT)
    have HS := Lib.hid (sibling_any j q w (by omega) (q_big hK hq))
    generalize ((2 ^ K : Nat) : Int) = N at *
    generalize ((nd j q : Nat) : Int) = X at *
    generalize ((nd (j + 1) (q / 2) : Nat) : Int) = Y at *
    clear e1 e2 hT hq hj
    go_enter Tryd.func21, Tryd.ntmps21
    go_wp2_with fail
    refine HP.out.mono ?_; rintro _ _ ⟨rfl, rfl⟩
    go_wp2_with fail
    refine HQ.out.mono ?_; rintro _ _ ⟨rfl, rfl⟩
    go_wp2_with fail
    refine HS.out.mono ?_; rintro _ _ ⟨rfl, rfl⟩
    go_wp2_with fail
    go_ret2
    exact ⟨rfl, rfl⟩
set_option maxHeartbeats 1000000 in
theorem mathLeaves_same (x : Int) (w : World) (hT : Tab w) : Calls Tryd.prog 29 #[.int .i64 x] w fun e w' => e = .returned (.tuple #[.int .i64 (loV x), .int .i64 (hiV x)]) ∧ w = w' := by
  have HN := Lib.hid (isNode_any x 1024 w)
  rw [inB_1024] at HN
  by_cases h : okN x
  · obtain ⟨j, q, rfl, hj, hq⟩ := (small_iff x).1 h
    rw [decide_eq_true h] at HN
    obtain ⟨c1, c2⟩ := lv_nd hj hq
    rw [c1, c2]
    have HL := Lib.hid (mathLevel_same ((nd j q : Nat) : Int) w hT)
    rw [levV_nd hj hq] at HL
    have hx : 0 ≤ ((nd j q : Nat) : Int) ∧ ((nd j q : Nat) : Int) ≤ 2046 := h
    obtain ⟨b1, b2⟩ := p2_big hj
    obtain ⟨d1, d2⟩ := nd_leaves j q
    have d3 : 2 ^ j - 1 ≤ nd j q := by unfold nd; omega
    have e1 := shl_pow j hj
    have e2 : IntKind.i64.wrap (((2 ^ j : Nat) : Int) - 1) = ((2 ^ j : Nat) : Int) - 1 := IntWalk.i64_in _ (by omega)
    have e3 : IntKind.i64.wrap (((nd j q : Nat) : Int) - (((2 ^ j : Nat) : Int) - 1)) = ((nd j q - (2 ^ j - 1) : Nat) : Int) := by rw [IntWalk.i64_in _ (by omega)]; omega
    have e4 : IntKind.i64.wrap (((nd j q : Nat) : Int) + (((2 ^ j : Nat) : Int) - 1)) = ((nd j q + (2 ^ j - 1) : Nat) : Int) := by rw [IntWalk.i64_in _ (by omega)]; omega
    have e7 : ((nd j q - (2 ^ j - 1) : Nat) : Int).tdiv 2 = ((2 ^ j * q : Nat) : Int) := by rw [Int.tdiv_eq_ediv_of_nonneg (by omega)]; omega
    have e8 : ((nd j q + (2 ^ j - 1) : Nat) : Int).tdiv 2 = ((2 ^ j * q + 2 ^ j - 1 : Nat) : Int) := by rw [Int.tdiv_eq_ediv_of_nonneg (by omega)]; omega
    have e9 : IntKind.i64.wrap ((2 ^ j * q : Nat) : Int) = ((2 ^ j * q : Nat) : Int) := IntWalk.i64_in _ (by omega)
    have e10 : IntKind.i64.wrap ((2 ^ j * q + 2 ^ j - 1 : Nat) : Int) = ((2 ^ j * q + 2 ^ j - 1 : Nat) : Int) := IntWalk.i64_in _ (by omega)
    have e5 : ((j : Int)).toNat = j := Int.toNat_natCast j
    have e6 : (j : Int) ≤ 64 := by omega
    generalize ((nd j q - (2 ^ j - 1) : Nat) : Int) = U at *
    generalize ((nd j q + (2 ^ j - 1) : Nat) : Int) = V at *
    generalize ((2 ^ j * q : Nat) : Int) = LO at *
    generalize ((2 ^ j * q + 2 ^ j - 1 : Nat) : Int) = HI at *
    generalize ((nd j q : Nat) : Int) = X at *
    generalize ((2 ^ j : Nat) : Int) = A at *
    clear h hx b1 b2 d1 d2 d3 c1 c2 hq hT
    go_enter Tryd.func29, Tryd.ntmps29
    go_wp2_with fail
    refine HN.out.mono ?_; rintro _ _ ⟨rfl, rfl⟩
    go_wp2_with fail
    refine HL.out.mono ?_; rintro _ _ ⟨rfl, rfl⟩
    go_wp2_with fail
    go_ret2
    exact ⟨rfl, rfl⟩
  · rw [decide_eq_false h] at HN
    obtain ⟨c1, c2⟩ := lv_no h
    rw [c1, c2]
    clear h c1 c2 hT
    go_enter Tryd.func29, Tryd.ntmps29
    go_wp2_with fail
    refine HN.out.mono ?_; rintro _ _ ⟨rfl, rfl⟩
    go_wp2_with fail
    go_ret2
    exact ⟨rfl, rfl⟩
set_option maxHeartbeats 1000000 in
theorem covers_any (x b : Int) (w : World) (hT : Tab w) : Calls Tryd.prog 45 #[.int .i64 x, .int .i64 b] w fun e w' => e = .returned (.bool (decide (loV x ≤ b) && decide (b ≤ hiV x))) ∧ w = w' := by
  have HL := Lib.hid (mathLeaves_same x w hT)
  generalize loV x = LO at *
  generalize hiV x = HI at *
  clear hT
  by_cases h : LO ≤ b
  · have d : (decide (LO ≤ b) && decide (b ≤ HI)) = decide (b ≤ HI) := by simp [h]
    rw [d]
    clear d
    go_enter Tryd.func45, Tryd.ntmps45
    go_wp2_with fail
    refine HL.out.mono ?_; rintro _ _ ⟨rfl, rfl⟩
    go_wp2_with fail
    go_ret
    exact ⟨rfl, rfl⟩
  · have d : (decide (LO ≤ b) && decide (b ≤ HI)) = false := by simp; intro h2; omega
    rw [d]
    clear d
    go_enter Tryd.func45, Tryd.ntmps45
    go_wp2_with fail
    refine HL.out.mono ?_; rintro _ _ ⟨rfl, rfl⟩
    go_wp2_with fail
    go_ret
    exact ⟨rfl, rfl⟩
set_option maxHeartbeats 1000000 in
theorem isLeaf_any (i n : Int) (w : World) : Calls Tryd.prog 44 #[.int .i64 i, .int .i64 n] w fun e w' => e = .returned (.bool (isTB n && (decide (0 ≤ i) && decide (i < n)))) ∧ w = w' := by
  have HT := Lib.hid (isSize_any n w)
  generalize isTB n = T at *
  cases T with
  | true =>
    by_cases h : 0 ≤ i
    · have d : (true && (decide (0 ≤ i) && decide (i < n))) = decide (i < n) := by simp [h]
      rw [d]
      clear d
      go_enter Tryd.func44, Tryd.ntmps44
      go_wp2_with fail
      refine HT.out.mono ?_; rintro _ _ ⟨rfl, rfl⟩
      go_wp2_with fail
      go_ret
      exact ⟨rfl, rfl⟩
    · have d : (true && (decide (0 ≤ i) && decide (i < n))) = false := by simp [h]
      rw [d]
      clear d
      go_enter Tryd.func44, Tryd.ntmps44
      go_wp2_with fail
      refine HT.out.mono ?_; rintro _ _ ⟨rfl, rfl⟩
      go_wp2_with fail
      go_ret
      exact ⟨rfl, rfl⟩
  | false =>
    rw [Bool.false_and]
    go_enter Tryd.func44, Tryd.ntmps44
    go_wp2_with fail
    refine HT.out.mono ?_; rintro _ _ ⟨rfl, rfl⟩
    go_wp2_with fail
    go_ret
    exact ⟨rfl, rfl⟩
end Go.Proofs.YtcomgbneacbncaaDoor
