/- TreeFinds. -/
import Derived.Test.YtnpobcggadojkaaGreatDoorLawTreeA
set_option linter.unusedVariables false
set_option linter.unusedSimpArgs false
namespace Go.Proofs.YtnpobcggadojkaaGreatDoor
open Go.RowKit

theorem find_iff (t : List Nod) (nm : Int) : findB t nm = true ↔ ∃ j, j < lvs t ∧ (ats t (2 * j)).kind = 1 ∧ (ats t (2 * j)).name = nm := by
  constructor
  · intro h
    obtain ⟨h1, h2, h3⟩ := find_yes h
    exact ⟨_, h1, h2, h3⟩
  · rintro ⟨j, h1, h2, h3⟩
    refine Classical.byContradiction fun h => ?_
    exact find_no (by rw [Bool.eq_false_iff]; exact h) j h1 ⟨h2, h3⟩
theorem new_find {nm : Int} {pub : List UInt8} (h : mayP nm pub) : findV [leafN nm pub] nm = 0 ∧ findB [leafN nm pub] nm = true := by
  have hr := RightK.new h
  have := find_at hr (i := 0) rfl
  have h1 : findB [leafN nm pub] nm = true := this.1
  have h2 : findN [leafN nm pub] nm = 0 := this.2
  exact ⟨by unfold findV; rw [h1, h2]; rfl, h1⟩

end Go.Proofs.YtnpobcggadojkaaGreatDoor
