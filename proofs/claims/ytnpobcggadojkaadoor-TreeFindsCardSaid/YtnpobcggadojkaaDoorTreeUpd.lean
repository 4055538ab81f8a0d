/- tree.Update. -/
import Derived.Test.YtnpobcggadojkaaDoorTreeBlank
import Derived.Test.YtnpobcggadojkaaDoorTreeRow9
import Derived.Test.YtnpobcggadojkaaDoorRefTree9
set_option linter.unusedVariables false
set_option linter.unusedSimpArgs false
namespace Go.Proofs.YtnpobcggadojkaaDoor
open Go.RowKit

theorem RightK.bounds {t : List Nod} {K : Nat} (h : RightK t K) : ∀ i, i < t.length → (ats t i).pub.length ≤ 1000 ∧ (ats t i).un.length ≤ 100000 ∧ (ats t i).hash.length ≤ 1000 := fun i hi => by
  have h1 := h.un_len i
  rcases h.okA i with e | ⟨_, h2, h3, _⟩
  · rw [e]; exact ⟨by decide, by decide, by decide⟩
  · have := h2.2.2
    refine ⟨by omega, by omega, by omega⟩
theorem blank_leaf9 {t : List Nod} {K k : Nat} (hK : K ≤ 10) (hl : t.length = 2 ^ (K + 1) - 1) (hk : k < 2 ^ K) (m : Nod) : blankT (t.set (2 * k) m) k = (blankT t k).set (2 * k) m := by
  have hl2 : (t.set (2 * k) m).length = 2 ^ (K + 1) - 1 := by rw [List.length_set, hl]
  obtain ⟨e1, f1, _⟩ := path_in hK hl hk
  obtain ⟨e2, _, _⟩ := path_in hK hl2 hk
  have h1 := p2_succ K
  have hb : (blankT t k).length = t.length := RightK.blankLen k
  have hmem : ∀ y ∈ pathN K 0 k, y < t.length := fun y hy => by rw [hl]; exact path_lt hk hy
  refine ats_ext ?_ fun x => ?_
  · rw [List.length_set, hb]
    unfold blankT
    rw [blank_len, List.length_set]
  · rw [ats_set _ _ _ _ (by rw [hb]; omega)]
    unfold blankT
    rw [e2, e1, blank_at _ _ _ (fun y hy => by rw [List.length_set]; exact hmem y hy), blank_at _ _ _ hmem, ats_set _ _ _ _ (by omega)]
    by_cases hx : x ∈ pathN K 0 k
    · have := path_odd hx
      rw [if_pos hx, if_pos hx, if_neg (by omega)]
    · rw [if_neg hx, if_neg hx]
end Go.Proofs.YtnpobcggadojkaaDoor
