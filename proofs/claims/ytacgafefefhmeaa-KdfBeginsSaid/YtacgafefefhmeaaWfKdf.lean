/- KdfBegins, KdfRounds, at integers. -/
import Derived.Test.YtacgafefefhmeaaLawKdfC
import Derived.Test.YtacgafefefhmeaaWfs
set_option linter.unusedVariables false
set_option linter.unusedSimpArgs false
namespace Go.Proofs.Ytacgafefefhmeaa
open Go.RowKit

theorem begins_int (va vb : Value) (la lb : List UInt8) (n m r : Int) (w : World) (ha : Rd w va la) (hb : Rd w vb lb) (hn : 0 ≤ n ∧ n ≤ 255) (hm : 0 ≤ m ∧ m ≤ 255) (hr : 0 ≤ r ∧ r ≤ 255) :
    Calls Try.prog 5 #[.agg #[va, vb, .int .u8 n, .int .u8 m, .int .u8 r]] w (Yes w) := by
  obtain ⟨n, rfl⟩ := Int.eq_ofNat_of_zero_le hn.1
  obtain ⟨m, rfl⟩ := Int.eq_ofNat_of_zero_le hm.1
  obtain ⟨r, rfl⟩ := Int.eq_ofNat_of_zero_le hr.1
  exact kdfBegins_walk va vb la lb n m r w ha hb (by omega) (by omega) (by omega)
theorem rounds_int (va vb : Value) (la lb : List UInt8) (n : Int) (w : World) (ha : Rd w va la) (hb : Rd w vb lb) (hn : 0 ≤ n ∧ n ≤ 255) :
    Calls Try.prog 7 #[va, vb, .int .u8 n] w (Yes w) := by
  obtain ⟨n, rfl⟩ := Int.eq_ofNat_of_zero_le hn.1
  exact kdfRounds_walk va vb la lb n w ha hb (by omega)
end Go.Proofs.Ytacgafefefhmeaa
