/- The laws of layer 8, at integers. -/
import Derived.Test.YtcomgbneacbncaaDoorLawMathB
import Derived.Test.YtcomgbneacbncaaDoorLawMathC
import Derived.Test.YtcomgbneacbncaaDoorLawMathD
import Derived.Test.YtcomgbneacbncaaDoorLawMathE
import Derived.Test.YtcomgbneacbncaaDoorLawMathF
import Derived.Test.YtcomgbneacbncaaDoorWfs
set_option linter.unusedVariables false
set_option linter.unusedSimpArgs false
namespace Go.Proofs.YtcomgbneacbncaaDoor
open Go.RowKit

theorem mathUp_int (a b : Int) (w : World) (ha : 0 ≤ a ∧ a ≤ 65535) (hb : 0 ≤ b ∧ b ≤ 255) (hT : Tab w) :
    Calls Tryd.prog 5 #[.int .u16 a, .int .u8 b] w (Yes w) := by
  obtain ⟨a, rfl⟩ := Int.eq_ofNat_of_zero_le ha.1
  obtain ⟨b, rfl⟩ := Int.eq_ofNat_of_zero_le hb.1
  exact mathUp_walk a b w (by omega) (by omega) hT

theorem mathWays_int (a b : Int) (w : World) (ha : 0 ≤ a ∧ a ≤ 65535) (hb : 0 ≤ b ∧ b ≤ 255) (hT : Tab w) :
    Calls Tryd.prog 6 #[.int .u16 a, .int .u8 b] w (Yes w) := by
  obtain ⟨a, rfl⟩ := Int.eq_ofNat_of_zero_le ha.1
  obtain ⟨b, rfl⟩ := Int.eq_ofNat_of_zero_le hb.1
  exact mathWays_walk a b w (by omega) (by omega) hT

theorem mathTwice_int (a b : Int) (w : World) (ha : 0 ≤ a ∧ a ≤ 65535) (hb : 0 ≤ b ∧ b ≤ 255) (hT : Tab w) :
    Calls Tryd.prog 9 #[.int .u16 a, .int .u8 b] w (Yes w) := by
  obtain ⟨a, rfl⟩ := Int.eq_ofNat_of_zero_le ha.1
  obtain ⟨b, rfl⟩ := Int.eq_ofNat_of_zero_le hb.1
  exact mathTwice_walk a b w (by omega) (by omega) hT

theorem mathMeets_int (a b c : Int) (w : World) (ha : 0 ≤ a ∧ a ≤ 65535) (hb : 0 ≤ b ∧ b ≤ 65535) (hc : 0 ≤ c ∧ c ≤ 255) (hT : Tab w) :
    Calls Tryd.prog 7 #[.int .u16 a, .int .u16 b, .int .u8 c] w (Yes w) := by
  obtain ⟨a, rfl⟩ := Int.eq_ofNat_of_zero_le ha.1
  obtain ⟨b, rfl⟩ := Int.eq_ofNat_of_zero_le hb.1
  obtain ⟨c, rfl⟩ := Int.eq_ofNat_of_zero_le hc.1
  exact mathMeets_walk a b c w (by omega) (by omega) (by omega) hT

theorem mathLeaves_int (a b c : Int) (w : World) (ha : 0 ≤ a ∧ a ≤ 65535) (hb : 0 ≤ b ∧ b ≤ 65535) (hc : 0 ≤ c ∧ c ≤ 255) (hT : Tab w) :
    Calls Tryd.prog 8 #[.int .u16 a, .int .u16 b, .int .u8 c] w (Yes w) := by
  obtain ⟨a, rfl⟩ := Int.eq_ofNat_of_zero_le ha.1
  obtain ⟨b, rfl⟩ := Int.eq_ofNat_of_zero_le hb.1
  obtain ⟨c, rfl⟩ := Int.eq_ofNat_of_zero_le hc.1
  exact mathLeaves_walk a b c w (by omega) (by omega) (by omega) hT
end Go.Proofs.YtcomgbneacbncaaDoor
