/- math's calls, each with the document's answer, at any integers; they read the library's table (Tab). -/
import Derived.Test.YtcomgbneacbncaaDoorMathCopath
import Derived.Test.YtcomgbneacbncaaDoorMathCommon
set_option linter.unusedVariables false
set_option linter.unusedSimpArgs false
namespace Go.Proofs.YtcomgbneacbncaaDoor
open Go.RowKit
theorem mathWidth_any (n : Int) (w : World) (hn : -9223372036854775808 ≤ n ∧ n ≤ 9223372036854775807) (hT : Tab w) :
    Calls Tryd.prog 11 #[.int .i64 n] w fun e w' => e = .returned (.tuple #[.int .i64 (widV n), .int .i64 (widE n)]) ∧ Kp w w' :=
  (mathWidth_same n w).mono (by rintro _ _ ⟨rfl, rfl⟩; exact ⟨rfl, Kp.refl _⟩)
theorem mathLeft_any (x : Int) (w : World) (hx : -9223372036854775808 ≤ x ∧ x ≤ 9223372036854775807) (hT : Tab w) :
    Calls Tryd.prog 13 #[.int .i64 x] w fun e w' => e = .returned (.tuple #[.int .i64 (lefV x), .int .i64 (chE x)]) ∧ Kp w w' :=
  (mathLeft_same x w hT).mono (by rintro _ _ ⟨rfl, rfl⟩; exact ⟨rfl, Kp.refl _⟩)
theorem mathRight_any (x : Int) (w : World) (hx : -9223372036854775808 ≤ x ∧ x ≤ 9223372036854775807) (hT : Tab w) :
    Calls Tryd.prog 15 #[.int .i64 x] w fun e w' => e = .returned (.tuple #[.int .i64 (rigV x), .int .i64 (chE x)]) ∧ Kp w w' :=
  (mathRight_same x w hT).mono (by rintro _ _ ⟨rfl, rfl⟩; exact ⟨rfl, Kp.refl _⟩)
theorem mathParent_any (x n : Int) (w : World) (hx : -9223372036854775808 ≤ x ∧ x ≤ 9223372036854775807) (hn : -9223372036854775808 ≤ n ∧ n ≤ 9223372036854775807) (hT : Tab w) :
    Calls Tryd.prog 19 #[.int .i64 x, .int .i64 n] w fun e w' => e = .returned (.tuple #[.int .i64 (paV x n), .int .i64 (paE x n)]) ∧ Kp w w' :=
  (mathParent_same x n w hT).mono (by rintro _ _ ⟨rfl, rfl⟩; exact ⟨rfl, Kp.refl _⟩)
theorem mathSibling_any (x n : Int) (w : World) (hx : -9223372036854775808 ≤ x ∧ x ≤ 9223372036854775807) (hn : -9223372036854775808 ≤ n ∧ n ≤ 9223372036854775807) (hT : Tab w) :
    Calls Tryd.prog 21 #[.int .i64 x, .int .i64 n] w fun e w' => e = .returned (.tuple #[.int .i64 (siV x n), .int .i64 (paE x n)]) ∧ Kp w w' :=
  (mathSibling_same x n w hT).mono (by rintro _ _ ⟨rfl, rfl⟩; exact ⟨rfl, Kp.refl _⟩)
theorem mathLeaves_any (x : Int) (w : World) (hx : -9223372036854775808 ≤ x ∧ x ≤ 9223372036854775807) (hT : Tab w) :
    Calls Tryd.prog 29 #[.int .i64 x] w fun e w' => e = .returned (.tuple #[.int .i64 (loV x), .int .i64 (hiV x)]) ∧ Kp w w' :=
  (mathLeaves_same x w hT).mono (by rintro _ _ ⟨rfl, rfl⟩; exact ⟨rfl, Kp.refl _⟩)
theorem mathLevel_any (x : Int) (w : World) (hx : -9223372036854775808 ≤ x ∧ x ≤ 9223372036854775807) (hT : Tab w) :
    Calls Tryd.prog 17 #[.int .i64 x] w fun e w' => e = .returned (.int .i64 (levV x)) ∧ Kp w w' :=
  (mathLevel_same x w hT).mono (by rintro _ _ ⟨rfl, rfl⟩; exact ⟨rfl, Kp.refl _⟩)
set_option maxHeartbeats 1000000 in
theorem mathPath_any (x n : Int) (w : World) (hx : -9223372036854775808 ≤ x ∧ x ≤ 9223372036854775807) (hn : -9223372036854775808 ≤ n ∧ n ≤ 9223372036854775807) (hT : Tab w) :
    Calls Tryd.prog 23 #[.int .i64 x, .int .i64 n] w fun e w' => (∃ v, e = .returned (.tuple #[v, .int .i64 (arE x n)]) ∧ RN w' v (pathV x n)) ∧ Kp w w' := by
  by_cases h : inB x n = true
  · obtain ⟨K, j, q, hK, rfl, rfl, hj, hq⟩ := (inB_iff x n).1 h
    obtain ⟨e1, e2, e3⟩ := ar_yes hK hj hq
    rw [e1, e2]
    exact mathPath_yes K j q w hK hj hq hT
  · obtain ⟨e1, e2, e3⟩ := ar_no h
    have h2 : inB x n = false := by rw [Bool.eq_false_iff]; exact h
    have HN := Lib.hid (isNode_any x n w)
    rw [h2] at HN
    rw [e1, e2]
    clear h h2 e1 e2 e3 hn hx hT
    go_enter Tryd.func23, Tryd.ntmps23
    go_wp2_with fail
    refine HN.out.mono ?_; rintro _ _ ⟨rfl, rfl⟩
    go_wp2_with fail
    go_ret2
    exact ⟨⟨_, rfl, RN.nil _⟩, Kp.refl _⟩
set_option maxHeartbeats 1000000 in
theorem mathCopath_any (x n : Int) (w : World) (hx : -9223372036854775808 ≤ x ∧ x ≤ 9223372036854775807) (hn : -9223372036854775808 ≤ n ∧ n ≤ 9223372036854775807) (hT : Tab w) :
    Calls Tryd.prog 25 #[.int .i64 x, .int .i64 n] w fun e w' => (∃ v, e = .returned (.tuple #[v, .int .i64 (arE x n)]) ∧ RN w' v (copaV x n)) ∧ Kp w w' := by
  by_cases h : inB x n = true
  · obtain ⟨K, j, q, hK, rfl, rfl, hj, hq⟩ := (inB_iff x n).1 h
    obtain ⟨e1, e2, e3⟩ := ar_yes hK hj hq
    rw [e1, e3]
    exact mathCopath_yes K j q w hK hj hq hT
  · obtain ⟨e1, e2, e3⟩ := ar_no h
    have h2 : inB x n = false := by rw [Bool.eq_false_iff]; exact h
    have HN := Lib.hid (isNode_any x n w)
    rw [h2] at HN
    rw [e1, e3]
    clear h h2 e1 e2 e3 hn hx hT
    go_enter Tryd.func25, Tryd.ntmps25
    go_wp2_with fail
    refine HN.out.mono ?_; rintro _ _ ⟨rfl, rfl⟩
    go_wp2_with fail
    go_ret2
    exact ⟨⟨_, rfl, RN.nil _⟩, Kp.refl _⟩
set_option maxHeartbeats 1000000 in
theorem mathCommon_any (a b n : Int) (w : World) (ha : -9223372036854775808 ≤ a ∧ a ≤ 9223372036854775807) (hb : -9223372036854775808 ≤ b ∧ b ≤ 9223372036854775807) (hn : -9223372036854775808 ≤ n ∧ n ≤ 9223372036854775807) (hT : Tab w) :
    Calls Tryd.prog 27 #[.int .i64 a, .int .i64 b, .int .i64 n] w fun e w' => e = .returned (.tuple #[.int .i64 (coV a b n), .int .i64 (coE a b n)]) ∧ Kp w w' := by
  by_cases h : okC a b n
  · have e1 : coE a b n = 0 := if_pos h
    have e2 : coV a b n = (coN a.toNat b.toNat : Int) := if_pos h
    rw [e1, e2]
    obtain ⟨h1, h2, h3, h4, h5⟩ := h
    obtain ⟨K, hK, rfl⟩ := (isTB_iff n).1 h1
    obtain ⟨a, rfl⟩ := Int.eq_ofNat_of_zero_le h2
    obtain ⟨b, rfl⟩ := Int.eq_ofNat_of_zero_le h3
    rw [Int.toNat_natCast, Int.toNat_natCast]
    exact mathCommon_yes K a b w hK (by omega) (by omega) hT
  · have e1 : coE a b n = 1 := if_neg h
    have e2 : coV a b n = 0 := if_neg h
    rw [e1, e2]
    have HA := Lib.hid (isLeaf_any a n)
    have HB := Lib.hid (isLeaf_any b n)
    have hno : (isTB n && (decide (0 ≤ a) && decide (a < n))) = false ∨ (isTB n && (decide (0 ≤ b) && decide (b < n))) = false := by
      rcases hA : (isTB n && (decide (0 ≤ a) && decide (a < n))) with _ | _
      · exact .inl rfl
      · rcases hB : (isTB n && (decide (0 ≤ b) && decide (b < n))) with _ | _
        · exact .inr rfl
        · simp only [Bool.and_eq_true, decide_eq_true_eq] at hA hB
          exact (h ⟨hA.1, hA.2.1, hB.2.1, hA.2.2, hB.2.2⟩).elim
    generalize (isTB n && (decide (0 ≤ a) && decide (a < n))) = P at *
    generalize (isTB n && (decide (0 ≤ b) && decide (b < n))) = Q at *
    clear h e1 e2 ha hb hn hT
    cases P with
    | false =>
      clear hno
      go_enter Tryd.func27, Tryd.ntmps27
      go_wp2_with fail
      refine (HA.out _).mono ?_; rintro _ _ ⟨rfl, rfl⟩
      go_wp2_with fail
      go_ret2
      exact ⟨rfl, (Kp.refl _).alloc _⟩
    | true =>
      have hQ : Q = false := hno.resolve_left (by decide)
      subst hQ
      clear hno
      go_enter Tryd.func27, Tryd.ntmps27
      go_wp2_with fail
      refine (HA.out _).mono ?_; rintro _ _ ⟨rfl, rfl⟩
      go_wp2_with fail
      refine (HB.out _).mono ?_; rintro _ _ ⟨rfl, rfl⟩
      go_wp2_with fail
      go_ret2
      exact ⟨rfl, (Kp.refl _).alloc _⟩
end Go.Proofs.YtcomgbneacbncaaDoor
