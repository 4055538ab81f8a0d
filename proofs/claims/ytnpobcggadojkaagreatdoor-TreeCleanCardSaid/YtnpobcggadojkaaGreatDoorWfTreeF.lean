/- TreeClean, at integers. -/
import Derived.Test.YtnpobcggadojkaaGreatDoorLawTreeF
import Derived.Test.YtnpobcggadojkaaGreatDoorWfTree
set_option linter.unusedVariables false
set_option linter.unusedSimpArgs false
namespace Go.Proofs.YtnpobcggadojkaaGreatDoor
open Go.RowKit
theorem treeClean_int (vt : Value) (t : List Nod) (a b : Int) (w : World) (ht : NL w vt t) (ha : 0 ≤ a ∧ a ≤ 255) (hb : 0 ≤ b ∧ b ≤ 255) (hT : Tab w) :
    Calls Tryz.prog 7 #[vt, .int .u8 a, .int .u8 b] w (Yes w) := by
  obtain ⟨a, rfl⟩ := Int.eq_ofNat_of_zero_le ha.1
  obtain ⟨y, rfl⟩ := byte_of hb
  exact treeClean_walk vt t a y w ht (by omega) hT
end Go.Proofs.YtnpobcggadojkaaGreatDoor
