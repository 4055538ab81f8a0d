/- TreeCovers. -/
import Derived.Test.YtnpobcggadojkaaGreatDoorLawTreeA
set_option linter.unusedVariables false
set_option linter.unusedSimpArgs false
namespace Go.Proofs.YtnpobcggadojkaaGreatDoor
open Go.RowKit

theorem count_succ (l : List Int) (p : Int → Bool) (k : Nat) (h : k < l.length) : (l.take (k + 1)).countP p = (l.take k).countP p + if p (l.getD k 0) = true then 1 else 0 := by
  rw [List.take_succ_eq_append_getElem h, List.countP_append, List.getD_eq_getElem?_getD, List.getElem?_eq_getElem h]
  simp [List.countP_cons]
theorem cov_no1 {t : List Nod} {i l : Int} (h : ¬ loV l ≤ i) : covB t i l = false := decide_eq_false fun e => h e.1
theorem cov_no2 {t : List Nod} {i l : Int} (h : ¬ i ≤ hiV l) : covB t i l = false := decide_eq_false fun e => h e.2.1

end Go.Proofs.YtnpobcggadojkaaGreatDoor
