/- SealSpoilt, SealNonces, at integers. -/
import Derived.Test.YtakaebedibgimaaLawSealD
import Derived.Test.YtakaebedibgimaaLawSealE
import Derived.Test.YtakaebedibgimaaWfs
set_option linter.unusedVariables false
set_option linter.unusedSimpArgs false
namespace Go.Proofs.Ytakaebedibgimaa
open Go.RowKit

theorem spoilt_int (va vb vc vd : Value) (la lb lc ld : List UInt8) (a c : Int) (w : World) (ha : Rd w va la) (hb : Rd w vb lb) (hc : Rd w vc lc) (hd : Rd w vd ld) (h1 : 0 ≤ a ∧ a ≤ 65535) (h2 : 0 ≤ c ∧ c ≤ 255) :
    Calls Try.prog 5 #[.agg #[va, vb, vc, vd, .int .u16 a, .int .u8 c]] w (Yes w) := by
  obtain ⟨a, rfl⟩ := Int.eq_ofNat_of_zero_le h1.1
  obtain ⟨c, rfl⟩ := Int.eq_ofNat_of_zero_le h2.1
  have e : (UInt8.ofNat c).toNat = c := by simp; omega
  have := sealSpoilt_walk va vb vc vd la lb lc ld a (UInt8.ofNat c) w ha hb hc hd (by omega)
  rwa [e] at this
theorem nonces_int (va : Value) (la : List UInt8) (a b : Int) (w : World) (ha : Rd w va la) (h1 : 0 ≤ a ∧ a ≤ 4294967295) (h2 : 0 ≤ b ∧ b ≤ 4294967295) :
    Calls Try.prog 6 #[va, .int .u32 a, .int .u32 b] w (Yes w) := by
  obtain ⟨a, rfl⟩ := Int.eq_ofNat_of_zero_le h1.1
  obtain ⟨b, rfl⟩ := Int.eq_ofNat_of_zero_le h2.1
  exact sealNonces_walk va la a b w ha (by omega) (by omega)
end Go.Proofs.Ytakaebedibgimaa
