/- pyxref08: Left, Right, Parent, Sibling. -/
import Derived.Test.YtcomgbneacbncaaDoorRefMathA
set_option linter.unusedVariables false
set_option linter.unusedSimpArgs false
namespace Go.Proofs.YtcomgbneacbncaaDoor
open Go.RowKit

set_option maxHeartbeats 1000000 in
theorem refLeft_any (x : Int) (w : World) : Calls Tryd.prog 14 #[.int .i64 x] w fun e w' => e = .returned (.tuple #[.int .i64 (lefV x), .int .i64 (chE x)]) ∧ w = w' := by
  have HLV := Lib.hid (refLevel_any x w)
  by_cases h : levV x = 0
  · rw [show lefV x = 0 from if_pos h, show chE x = 1 from if_pos h]
    rw [h] at HLV
    clear h
    go_enter Tryd.func14, Tryd.ntmps14
    go_wp2_with fail
    refine HLV.out.mono ?_; rintro _ _ ⟨rfl, rfl⟩
    go_wp2_with fail
    go_ret2
    exact ⟨rfl, rfl⟩
  · have hok : okN x := by
      by_cases h2 : okN x
      · exact h2
      · exact absurd (levV_no h2) h
    obtain ⟨j, q, rfl, hj, hq⟩ := (small_iff x).1 hok
    have hb := (small_iff ((nd j q : Nat) : Int)).2 ⟨j, q, rfl, hj, hq⟩
    rw [levV_nd hj hq] at h HLV
    cases j with
    | zero => exact absurd rfl h
    | succ j =>
      obtain ⟨e1, e2, e3⟩ := ch_yes (j := j) hj hq
      rw [e1, e2]
      have HH := Lib.hid (refHalf8_any j w (by omega))
      have hp : (2 : Nat) ^ j ≤ 2 ^ 10 := Nat.pow_le_pow_right (by omega) (by omega)
      have hl := nd_left j q
      have hr := nd_right j q
      have i1 : IntKind.i64.wrap (((j + 1 : Nat) : Int) - 1) = (j : Int) := by rw [IntWalk.i64_in _ (by omega)]; omega
      obtain ⟨M, hM⟩ : ∃ M, 2 ^ j = M := ⟨_, rfl⟩
      rw [hM] at HH hp hl hr
      have i2 : IntKind.i64.wrap (((nd (j + 1) q : Nat) : Int) - (M : Int)) = ((nd j (2 * q) : Nat) : Int) := by rw [IntWalk.i64_in _ (by omega)]; omega
      have i3 : (((j + 1 : Nat) : Int) == 0) = false := beq_eq_false_iff_ne.2 (by omega)
      have i4 : ¬ ((j + 1 : Nat) : Int) = 0 := by omega
      generalize ((nd (j + 1) q : Nat) : Int) = X at *
      generalize ((nd j (2 * q) : Nat) : Int) = Y at *
      generalize ((j + 1 : Nat) : Int) = J at *
      clear h hok hb e1 e2 e3 hp hl hr hM hj hq
      go_enter Tryd.func14, Tryd.ntmps14
      go_wp2_with fail
      refine HLV.out.mono ?_; rintro _ _ ⟨rfl, rfl⟩
      go_wp2_with fail
      refine HH.out.mono ?_; rintro _ _ ⟨rfl, rfl⟩
      go_wp2_with fail
      go_ret2
      exact ⟨rfl, rfl⟩

set_option maxHeartbeats 1000000 in
theorem refRight_any (x : Int) (w : World) : Calls Tryd.prog 16 #[.int .i64 x] w fun e w' => e = .returned (.tuple #[.int .i64 (rigV x), .int .i64 (chE x)]) ∧ w = w' := by
  have HLV := Lib.hid (refLevel_any x w)
  by_cases h : levV x = 0
  · rw [show rigV x = 0 from if_pos h, show chE x = 1 from if_pos h]
    rw [h] at HLV
    clear h
    go_enter Tryd.func16, Tryd.ntmps16
    go_wp2_with fail
    refine HLV.out.mono ?_; rintro _ _ ⟨rfl, rfl⟩
    go_wp2_with fail
    go_ret2
    exact ⟨rfl, rfl⟩
  · have hok : okN x := by
      by_cases h2 : okN x
      · exact h2
      · exact absurd (levV_no h2) h
    obtain ⟨j, q, rfl, hj, hq⟩ := (small_iff x).1 hok
    have hb := (small_iff ((nd j q : Nat) : Int)).2 ⟨j, q, rfl, hj, hq⟩
    rw [levV_nd hj hq] at h HLV
    cases j with
    | zero => exact absurd rfl h
    | succ j =>
      obtain ⟨e1, e2, e3⟩ := ch_yes (j := j) hj hq
      rw [e1, e3]
      have HH := Lib.hid (refHalf8_any j w (by omega))
      have hp : (2 : Nat) ^ j ≤ 2 ^ 10 := Nat.pow_le_pow_right (by omega) (by omega)
      have hl := nd_left j q
      have hr := nd_right j q
      have i1 : IntKind.i64.wrap (((j + 1 : Nat) : Int) - 1) = (j : Int) := by rw [IntWalk.i64_in _ (by omega)]; omega
      obtain ⟨M, hM⟩ : ∃ M, 2 ^ j = M := ⟨_, rfl⟩
      rw [hM] at HH hp hl hr
      have i2 : IntKind.i64.wrap (((nd (j + 1) q : Nat) : Int) + (M : Int)) = ((nd j (2 * q + 1) : Nat) : Int) := by rw [IntWalk.i64_in _ (by omega)]; omega
      have i3 : (((j + 1 : Nat) : Int) == 0) = false := beq_eq_false_iff_ne.2 (by omega)
      have i4 : ¬ ((j + 1 : Nat) : Int) = 0 := by omega
      generalize ((nd (j + 1) q : Nat) : Int) = X at *
      generalize ((nd j (2 * q + 1) : Nat) : Int) = Y at *
      generalize ((j + 1 : Nat) : Int) = J at *
      clear h hok hb e1 e2 e3 hp hl hr hM hj hq
      go_enter Tryd.func16, Tryd.ntmps16
      go_wp2_with fail
      refine HLV.out.mono ?_; rintro _ _ ⟨rfl, rfl⟩
      go_wp2_with fail
      refine HH.out.mono ?_; rintro _ _ ⟨rfl, rfl⟩
      go_wp2_with fail
      go_ret2
      exact ⟨rfl, rfl⟩

theorem ch_nd_or (p : Int) : chE p = 1 ∨ chE p = 0 := by unfold chE; split <;> simp
/-- Whose child a node is. -/
theorem child_iff {j q : Nat} (p : Nat) (hp : p ≤ 2046) (hj : j ≤ 10) :
    (chE (p : Int) = 0 ∧ (lefV (p : Int) = ((nd j q : Nat) : Int) ∨ rigV (p : Int) = ((nd j q : Nat) : Int))) ↔ p = nd (j + 1) (q / 2) := by
  obtain ⟨i, r, e, hi, hr⟩ := nd_of 10 p (by omega)
  subst e
  cases i with
  | zero =>
    obtain ⟨e1, e2, e3⟩ := ch_leaf (q := r) (by simpa using hr)
    rw [e1]
    constructor
    · rintro ⟨h, _⟩; omega
    · intro h; exact absurd (nd_inj h).1 (by omega)
  | succ i =>
    obtain ⟨e1, e2, e3⟩ := ch_yes (j := i) hi hr
    rw [e1, e2, e3]
    constructor
    · rintro ⟨_, h | h⟩
      · obtain ⟨rfl, rfl⟩ := nd_inj (Int.ofNat.inj h)
        congr 1; omega
      · obtain ⟨rfl, rfl⟩ := nd_inj (Int.ofNat.inj h)
        congr 1; omega
    · intro h
      obtain ⟨h1, h2⟩ := nd_inj h
      obtain rfl : i = j := by omega
      refine ⟨rfl, ?_⟩
      by_cases h3 : q % 2 = 0
      · left; congr 2; omega
      · right; congr 2; omega
end Go.Proofs.YtcomgbneacbncaaDoor
