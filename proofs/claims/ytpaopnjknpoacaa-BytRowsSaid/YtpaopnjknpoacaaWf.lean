/- Numbers that came in: their bounds; two walks at integers. -/
import Derived.Test.YtpaopnjknpoacaaLaws6
import Derived.OpenShut
namespace Go.Proofs.Ytpaopnjknpoacaa
open Go.RowKit

theorem wf64 {n : Int} (h : (Lit.int .i64 n).wf = true) : -9223372036854775808 ≤ n ∧ n ≤ 9223372036854775807 := by
  have := bounds_i64 h
  omega
theorem wf32 {n : Int} (h : (Lit.int .u32 n).wf = true) : 0 ≤ n ∧ n ≤ 4294967295 := by
  have := bounds_u32 h
  omega
theorem wf16 {n : Int} (h : (Lit.int .u16 n).wf = true) : 0 ≤ n ∧ n ≤ 65535 := by
  have := bounds_u16 h
  omega
theorem cuts_int (n k cut : Int) (v : Value) (x : List UInt8) (w : World) (hn : -9223372036854775808 ≤ n ∧ n ≤ 9223372036854775807) (hcut : 0 ≤ cut ∧ cut ≤ 65535) (h : Rd w v x) :
    Calls Try.prog 8 #[.agg #[.int .i64 n, .int .i64 k, v, .int .u16 cut]] w (Yes w) := by
  obtain ⟨c, rfl⟩ := Int.eq_ofNat_of_zero_le hcut.1
  exact bytCuts_walk n k c v x w hn (by omega) h
theorem joins_int (n : Int) (v : Value) (ls : List (List UInt8)) (w : World) (hn : 0 ≤ n ∧ n ≤ 4294967295) (h : RdL w v ls) :
    Calls Try.prog 9 #[v, .int .u32 n] w (Yes w) := by
  obtain ⟨c, rfl⟩ := Int.eq_ofNat_of_zero_le hn.1
  exact bytJoins_walk c v ls w (by omega) h
end Go.Proofs.Ytpaopnjknpoacaa
