/- ShaTells, ShaEnds, ShaRounds. -/
import Derived.Test.YtgialijhnghdgaaShownSha
set_option linter.unusedVariables false
set_option linter.unusedSimpArgs false
namespace Go.Proofs.Ytgialijhnghdgaa
open Go.RowKit

set_option maxHeartbeats 1000000 in
theorem shaTells_walk (v : Value) (l : List UInt8) (w : World) (h : Rd w v l) :
    Calls Try.prog 3 #[v] w (Yes w) := by
  obtain ⟨a, c, rfl, h1, h2⟩ := h.shape
  unfold maxLen at h2
  by_cases hl : l.length ≤ 1500
  · have hl2 : ¬ (1500 < (l.length : Int)) := by omega
    go_enter Try.func3, Try.ntmps3
    go_wp2_with fail
    refine (shown_any _).mono ?_
    rintro e w1 ⟨rfl, k1⟩
    go_wp2_with fail
    refine (sum_any _ l _ (h.kp k1) (by omega)).mono ?_
    rintro e w2 ⟨⟨v2, rfl, r2⟩, k2⟩
    go_wp2_with fail
    refine (refSum_any _ l _ (h.kp (k1.trans k2)) (by omega)).mono ?_
    rintro e w3 ⟨⟨v3, rfl, r3⟩, k3⟩
    go_wp2_with fail
    refine (same_any _ _ _ _ _ (r2.kp k3) r3).mono ?_
    rintro e w4 ⟨rfl, rfl⟩
    rw [decide_eq_true rfl]
    go_wp2_with fail
    go_ret
    exact ⟨rfl, (k1.trans k2).trans k3⟩
  · have hl2 : 1500 < (l.length : Int) := by omega
    go_enter Try.func3, Try.ntmps3
    go_wp2_with fail
    refine (shown_any _).mono ?_
    rintro e w1 ⟨rfl, k1⟩
    go_wp2_with fail
    go_ret
    exact ⟨rfl, k1⟩
end Go.Proofs.Ytgialijhnghdgaa
