/- pyxref07: Public, tag, Sign, Verify; pyxlaw07.told. -/
import Derived.Test.YtdcbljfacmidjaaGreatSigPlain
import Derived.Test.YtdcbljfacmidjaaGreatKdfRef
import Derived.Test.YtdcbljfacmidjaaGreatMacAll
set_option linter.unusedVariables false
set_option linter.unusedSimpArgs false
namespace Go.Proofs.YtdcbljfacmidjaaGreat
open Go.RowKit

set_option maxHeartbeats 1000000 in
theorem refPublic_any (u : Value) (seed : List UInt8) (w : World) (hu : Rd w u seed) :
    Calls Tryz.prog 15 #[u] w fun e w' => (∃ r, e = .returned (.tuple #[r, .int .i64 (pubE seed)]) ∧ Rd w' r (pubR seed)) ∧ Kp w w' := by
  obtain ⟨a1, c1, rfl, h1, h2⟩ := hu.shape
  by_cases hk : seed.length = 32
  · obtain ⟨e0, e1⟩ := pub_yes hk
    rw [e0, e1]
    have HL : Hid (Calls Tryz.prog 27 #[.slice a1 seed.length c1, .string ⟨#[112, 117, 98, 108, 105, 99]⟩, .slice none 0 0, .int .i64 32] w fun e w' => (∃ v, e = .returned (.tuple #[v, .int .i64 0]) ∧ Rd w' v (pubB seed)) ∧ Kp w w') := refLabel_any _ ⟨#[112, 117, 98, 108, 105, 99]⟩ _ seed [] 32 w hu (rd_nil w) (by decide) (by simp) (by omega)
    rw [hk] at HL h1 ⊢
    clear hu hk e0 e1
    go_enter Tryz.func15, Tryz.ntmps15
    go_wp2_with fail
    refine HL.out.mono ?_; rintro _ w1 ⟨⟨v1, rfl, r1⟩, k1⟩
    obtain ⟨a, n, c, rfl⟩ := r1.sl
    go_wp2_with fail
    go_ret2
    exact ⟨⟨_, rfl, r1⟩, k1⟩
  · obtain ⟨e0, e1⟩ := pub_no hk
    rw [e0, e1]
    have hb2 : ((seed.length : Int) == 32) = false := beq_eq_false_iff_ne.2 (by omega)
    have hb3 : ¬ (seed.length : Int) = 32 := by omega
    go_enter Tryz.func15, Tryz.ntmps15
    go_wp2_with fail
    go_ret2
    exact ⟨⟨_, rfl, rd_nil _⟩, Kp.refl _⟩

end Go.Proofs.YtdcbljfacmidjaaGreat
