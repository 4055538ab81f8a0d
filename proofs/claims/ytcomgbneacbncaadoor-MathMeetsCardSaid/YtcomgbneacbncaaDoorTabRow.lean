/- What a row's list of the library's tables gives: the table lies in its variable (Tab); and a world in which both tables lie, for the witness. -/
import Derived.Test.YtcomgbneacbncaaDoorMathTab
import Derived.Lib.LaidTab
import Derived.Stop.LaidErr
import Derived.Deep.DeepHandedRow
set_option linter.unusedVariables false
set_option linter.unusedSimpArgs false
namespace Go.Proofs.YtcomgbneacbncaaDoor
open Go.RowKit

theorem gTab8 : Tryd.prog.globalNamed "math/bits.deBruijn64tab" = some 1 := by kernel_rfl
theorem gTabType8 : (Tryd.prog.globals[1]?).map (·.type) = some 58 := by kernel_rfl
theorem cellsTab8 : Tryd.prog.cellsOf 58 = 64 := by kernel_rfl
theorem cellsByte8 : Tryd.prog.cellsOf 5 = 1 := by kernel_rfl
theorem tab_laid {W : World} (h : laidMetH Tryd.prog [("math/bits.deBruijn32tab", Rows.laid_math_bits_deBruijn32tab), ("math/bits.deBruijn64tab", Rows.laid_math_bits_deBruijn64tab)] W) : Tab W := by
  have h1 : laidMet Tryd.prog [("math/bits.deBruijn32tab", Rows.laid_math_bits_deBruijn32tab), ("math/bits.deBruijn64tab", Rows.laid_math_bits_deBruijn64tab)] W := h
  have h2 := laidMet.tail h1
  have t : Lib.TabIs Tryd.prog W "math/bits.deBruijn64tab" .u8 (Lib.deBruijn64tab.map fun (n : Nat) => (n : Int)) :=
    Lib.tabIs_of_head (rest := []) gTab8 gTabType8 Tryd.underlying58 Tryd.underlying5 cellsByte8 cellsTab8 h2
  intro i hi
  have h3 := t.cell gTab8 i (by simpa using (show i < Lib.deBruijn64tab.length from hi))
  rw [h3]
  have hi2 : i < Lib.deBruijn64tab.length := hi
  simp [List.getD_eq_getElem?_getD, hi2]
/-- A block's cells, laid anew. -/
def relaid (l : List Nat) : Obj → Obj
  | .cells _ t frozen => .cells (l.map fun (n : Nat) => (.int .u8 (n : Int) : Value)).toArray t frozen
  | o => o
/-- The settled world, both tables as their initialisers lay them. -/
noncomputable def laidWorld (os : Os) : World :=
  { World.holding Tryd.prog os ⟨#[], #[], []⟩ with heap := ((World.holding Tryd.prog os ⟨#[], #[], []⟩).heap.modify 0 (relaid Lib.deBruijn32tab)).modify 1 (relaid Lib.deBruijn64tab) }
end Go.Proofs.YtcomgbneacbncaaDoor
