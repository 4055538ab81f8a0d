/- SigSpoilt, SigWrapped, at integers. -/
import Derived.Test.YtdcbljfacmidjaaLawSigB
import Derived.Test.YtdcbljfacmidjaaLawSigC
import Derived.Test.YtdcbljfacmidjaaWfs
set_option linter.unusedVariables false
set_option linter.unusedSimpArgs false
namespace Go.Proofs.Ytdcbljfacmidjaa
open Go.RowKit

theorem sigSpoilt_int (va vx vy : Value) (sa sb : ByteArray) (la lx ly : List UInt8) (a c : Int) (w : World) (ha : Rd w va la) (hx : Rd w vx lx) (hy : Rd w vy ly) (h1 : 0 ≤ a ∧ a ≤ 255) (h2 : 0 ≤ c ∧ c ≤ 255) :
    Calls Try.prog 5 #[.agg #[va, .string sa, .string sb, vx, vy, .int .u8 a, .int .u8 c]] w (Yes w) := by
  obtain ⟨a, rfl⟩ := Int.eq_ofNat_of_zero_le h1.1
  obtain ⟨c, rfl⟩ := Int.eq_ofNat_of_zero_le h2.1
  have e : (UInt8.ofNat c).toNat = c := by simp; omega
  have := sigSpoilt_walk va vx vy sa sb la lx ly a (UInt8.ofNat c) w ha hx hy (by omega)
  rwa [e] at this
theorem sigWrapped_int (va vb vc vd : Value) (la lb lc ld : List UInt8) (n : Int) (w : World) (ha : Rd w va la) (hb : Rd w vb lb) (hc : Rd w vc lc) (hd : Rd w vd ld) (h1 : 0 ≤ n ∧ n ≤ 255) :
    Calls Try.prog 6 #[.agg #[va, vb, vc, vd, .int .u8 n]] w (Yes w) := by
  obtain ⟨n, rfl⟩ := Int.eq_ofNat_of_zero_le h1.1
  exact sigWrapped_walk va vb vc vd n la lb lc ld w ha hb hc hd (by omega)
end Go.Proofs.Ytdcbljfacmidjaa
