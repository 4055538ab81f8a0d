/- The laws of layer 9, at integers. -/
import Derived.Test.YtnpobcggadojkaaGreatDoorLawTreeB
import Derived.Test.YtnpobcggadojkaaGreatDoorLawTreeC
import Derived.Test.YtnpobcggadojkaaGreatDoorLawTreeD
set_option linter.unusedVariables false
set_option linter.unusedSimpArgs false
namespace Go.Proofs.YtnpobcggadojkaaGreatDoor
open Go.RowKit

theorem byte_of {b : Int} (h : 0 ≤ b ∧ b ≤ 255) : ∃ x : UInt8, b = (x.toNat : Int) := by
  obtain ⟨n, rfl⟩ := Int.eq_ofNat_of_zero_le h.1
  refine ⟨UInt8.ofNat n, ?_⟩
  have : (UInt8.ofNat n).toNat = n := by simp; omega
  rw [this]
theorem treeStays_int (vt : Value) (t : List Nod) (name i b : Int) (w : World) (ht : NL w vt t) (hname : -9223372036854775808 ≤ name ∧ name ≤ 9223372036854775807) (hi : -9223372036854775808 ≤ i ∧ i ≤ 9223372036854775807) (hb : 0 ≤ b ∧ b ≤ 255) (hT : Tab w) :
    Calls Tryz.prog 5 #[.agg #[vt, .int .i64 name, .int .i64 i, .int .u8 b]] w (Yes w) := by
  obtain ⟨x, rfl⟩ := byte_of hb
  exact treeStays_walk vt t name i x w ht hname hi hT
theorem treeBack_int (vt : Value) (t : List Nod) (name a b : Int) (w : World) (ht : NL w vt t) (hname : -9223372036854775808 ≤ name ∧ name ≤ 9223372036854775807) (ha : 0 ≤ a ∧ a ≤ 255) (hb : 0 ≤ b ∧ b ≤ 255) (hT : Tab w) :
    Calls Tryz.prog 6 #[.agg #[vt, .int .i64 name, .int .u8 a, .int .u8 b]] w (Yes w) := by
  obtain ⟨x, rfl⟩ := byte_of ha
  obtain ⟨y, rfl⟩ := byte_of hb
  exact treeBack_walk vt t name x y w ht hname hT
end Go.Proofs.YtnpobcggadojkaaGreatDoor
