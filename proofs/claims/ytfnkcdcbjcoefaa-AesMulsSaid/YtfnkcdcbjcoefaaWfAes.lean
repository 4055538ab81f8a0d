/- AesParts, AesMuls, at integers. -/
import Derived.Test.YtfnkcdcbjcoefaaLawAesB
import Derived.Test.YtfnkcdcbjcoefaaLawAesC
import Derived.Test.YtfnkcdcbjcoefaaWfs
set_option linter.unusedVariables false
set_option linter.unusedSimpArgs false
namespace Go.Proofs.Ytfnkcdcbjcoefaa
open Go.RowKit

theorem u8_int (n : Int) (h : 0 ≤ n ∧ n ≤ 255) : ∃ x : UInt8, n = (x.toNat : Int) := by
  refine ⟨UInt8.ofNat n.toNat, ?_⟩
  rw [UInt8.toNat_ofNat']
  omega
theorem parts_int5 (a b : Int) (va : Value) (la : List UInt8) (w : World) (h : Rd w va la) (ha : 0 ≤ a ∧ a ≤ 255) (hb : 0 ≤ b ∧ b ≤ 255) :
    Calls Try.prog 3 #[.int .u8 a, .int .u8 b, va] w (Yes w) := by
  obtain ⟨x, rfl⟩ := u8_int a ha
  obtain ⟨y, rfl⟩ := u8_int b hb
  exact aesParts_walk x y va la w h
theorem muls_int5 (a b c : Int) (w : World) (ha : 0 ≤ a ∧ a ≤ 255) (hb : 0 ≤ b ∧ b ≤ 255) (hc : 0 ≤ c ∧ c ≤ 255) :
    Calls Try.prog 6 #[.int .u8 a, .int .u8 b, .int .u8 c] w (Yes w) := by
  obtain ⟨x, rfl⟩ := u8_int a ha
  obtain ⟨y, rfl⟩ := u8_int b hb
  obtain ⟨z, rfl⟩ := u8_int c hc
  exact aesMuls_walk x y z w
end Go.Proofs.Ytfnkcdcbjcoefaa
