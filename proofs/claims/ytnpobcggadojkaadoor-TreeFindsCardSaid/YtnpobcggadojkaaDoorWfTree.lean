/- The laws of layer 9, at integers. -/
import Derived.Test.YtnpobcggadojkaaDoorLawTreeB
import Derived.Test.YtnpobcggadojkaaDoorLawTreeC
import Derived.Test.YtnpobcggadojkaaDoorLawTreeD
set_option linter.unusedVariables false
set_option linter.unusedSimpArgs false
namespace Go.Proofs.YtnpobcggadojkaaDoor
open Go.RowKit

theorem byte_of {b : Int} (h : 0 ≤ b ∧ b ≤ 255) : ∃ x : UInt8, b = (x.toNat : Int) := by
  obtain ⟨n, rfl⟩ := Int.eq_ofNat_of_zero_le h.1
  refine ⟨UInt8.ofNat n, ?_⟩
  have : (UInt8.ofNat n).toNat = n := by simp; omega
  rw [this]
theorem treeCovers_int (vt : Value) (t : List Nod) (a : Int) (w : World) (ht : NL w vt t) (ha : 0 ≤ a ∧ a ≤ 255) (hT : Tab w) :
    Calls Tryd.prog 3 #[vt, .int .u8 a] w (Yes w) := by
  obtain ⟨a, rfl⟩ := Int.eq_ofNat_of_zero_le ha.1
  exact treeCovers_walk vt t a w ht (by omega) hT
theorem treeFinds_int (vt : Value) (t : List Nod) (n b : Int) (w : World) (ht : NL w vt t) (hn : 0 ≤ n ∧ n ≤ 65535) (hb : 0 ≤ b ∧ b ≤ 255) (hT : Tab w) :
    Calls Tryd.prog 4 #[vt, .int .u16 n, .int .u8 b] w (Yes w) := by
  obtain ⟨n, rfl⟩ := Int.eq_ofNat_of_zero_le hn.1
  obtain ⟨y, rfl⟩ := byte_of hb
  exact treeFinds_walk vt t n y w ht (by omega) hT
end Go.Proofs.YtnpobcggadojkaaDoor
