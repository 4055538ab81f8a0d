/- TreeTells, TreeDoes (written by gen/tree5.py). -/
import Derived.Test.YtnpobcggadojkaaDoorShownTree
set_option linter.unusedVariables false
set_option linter.unusedSimpArgs false
namespace Go.Proofs.YtnpobcggadojkaaDoor
open Go.RowKit

theorem right9_yes (u : Value) (t : List Nod) (K : Nat) (w : World) (hu : NL w u t) (hr : RightK t K) : Calls Tryd.prog 15 #[u] w fun e w' => e = .returned (.bool true) ∧ Kp w w' := by
  refine (refRightT_any u t w hu (by have := hr.small.1; omega)).mono ?_
  rintro _ w' ⟨⟨b, rfl, hb⟩, k⟩
  rw [hb.2 ⟨K, hr⟩]
  exact ⟨rfl, k⟩
/-- May: few nodes, and right; the answer's two ways. -/
theorem may9_any (u : Value) (t : List Nod) (w : World) (hu : NL w u t) : Calls Tryd.prog 7 #[u, .int .i64 80] w fun e w' => (∃ b, e = .returned (.bool b) ∧ (b = true → ∃ K, RightK t K)) ∧ Kp w w' := by
  refine (refMayT_any u t 80 w hu (by omega)).mono ?_
  rintro _ w' ⟨⟨b, rfl, hb⟩, k⟩
  exact ⟨⟨b, rfl, fun h => (hb.1 h).2⟩, k⟩

end Go.Proofs.YtnpobcggadojkaaDoor
