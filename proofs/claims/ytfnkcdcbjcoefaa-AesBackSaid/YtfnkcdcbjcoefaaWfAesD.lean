/- AesBack, at integers. -/
import Derived.Test.YtfnkcdcbjcoefaaLawAesD
import Derived.Test.YtfnkcdcbjcoefaaWfs
set_option linter.unusedVariables false
set_option linter.unusedSimpArgs false
namespace Go.Proofs.Ytfnkcdcbjcoefaa
open Go.RowKit

theorem back_int5 (va vb vc : Value) (la lb lc : List UInt8) (n : Int) (w : World) (ha : Rd w va la) (hb : Rd w vb lb) (hc : Rd w vc lc) (hn : 0 ≤ n ∧ n ≤ 65535) :
    Calls Try.prog 7 #[.agg #[va, vb, vc, .int .u16 n]] w (Yes w) := by
  obtain ⟨n, rfl⟩ := Int.eq_ofNat_of_zero_le hn.1
  exact aesBack_walk va vb vc la lb lc n w ha hb hc hn.2
end Go.Proofs.Ytfnkcdcbjcoefaa
