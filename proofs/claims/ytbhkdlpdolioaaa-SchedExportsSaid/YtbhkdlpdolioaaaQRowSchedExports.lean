/- SchedExports: the law of that name answers true at every input, and leaves its arguments as they were. No further condition. -/
import Derived.Test.YtbhkdlpdolioaaaQ2
import Derived.Test.YtbhkdlpdolioaaaQ3
import Derived.Test.YtbhkdlpdolioaaaQ30
import Derived.Test.YtbhkdlpdolioaaaQ42
import Derived.OpenShut
import Derived.ShutString
import Derived.ChangeOld
set_option linter.unusedVariables false
set_option linter.unusedSimpArgs false
namespace Go.Proofs.Ytbhkdlpdolioaaa.schedExports
open Go.ChangeShapes Go.WideShapes Go.ChangeAt Go.RowKit
open Go.ChangeMaps (open_string shut_string)
theorem own : ownKnob Try.prog.godebug = none := by kernel_rfl
theorem laidOut : laidOutB Try.prog = true := by kernel_rfl
set_option maxRecDepth 100000 in
theorem lifted (os : Os) (started : os.Started) (H : Type) (enc : TypeId × Value → H) :
  ReturnsInHanded {} Try.checked os 9 .any (Rows.schedExportsSpec.pre6 enc Try.prog Try.f9 Rows.schedExportsRow.domain false) (Rows.schedExportsSpec.post enc Try.prog Try.f9 false true false false) := by
 refine returnsInHanded_of_change (C := Try.checked) own started (by kernel_rfl) Try.func9
  (ChangeSpec.witness6 (enc := enc) (C := Try.checked) false ⟨#[], #[.agg #[.slice none 0 0, .slice none 0 0, .slice none 0 0, .slice none 0 0, .slice none 0 0, .string ⟨#[]⟩, .slice none 0 0, .int .u8 0]], []⟩ 8 (by kernel_rfl) (by kernel_rfl) (by kernel_rfl) (by kernel_rfl)) ?_
 intro W base args ds gs before hval0 hW hcnd _;have hval : ∀ (j : Nat) t v, Try.f9.params[j]? = some t → args[j]? = some v → Value.okWide Try.prog W .any base t v := hval0;have hW' := hW;obtain ⟨p, q, hA0, hV, rfl, hfz, hnd⟩ := hW;have hA : DataW.TrodAll enc Try.prog W 0 (fun _ => true) true Try.f9.params.toList args.toList ds p := hA0;rw [Try.params9] at hA hval;obtain ⟨v0, vs0, d0, ds0, p0, q0, hargs, rfl, rfl, h0, r0⟩ := trodAll_cons hA;obtain ⟨rfl, rfl, rfl⟩ := trodAll_nil r0;obtain rfl : args = #[v0] := by cases args; simp_all
 obtain ⟨rfl, rfl⟩ := trodVars_none hV;have k0 := h0;have lt0 : ∀ x ∈ p0, x.block < W.heap.size := by obtain ⟨m, hm⟩ := k0; exact DataW.trod_lt m _ _ _ hm
 obtain ⟨f0_0_0, f0_0_1, f0_0_2, f0_0_3, f0_0_4, f0_1, f0_2, f0_3, y0_0, y0_1, y0_2, y0_3, _, rfl, ed0, t0_0, t0_1, t0_2, t0_3⟩ := acD Try.underlying70 (by kernel_rfl) (by kernel_rfl) (hval 0 70 v0 rfl rfl) h0;obtain ⟨Ef0_0, rf0_0⟩ := EV.of_cells Try.underlying36 (by kernel_rfl) Try.underlying22 Try.underlying22 Try.underlying22 Try.underlying22 Try.underlying22 Try.underlying5 (by kernel_rfl) t0_0;obtain ⟨sf0_1, ef0_1, _, _⟩ := DataW.trod_string Try.underlying9 t0_1;cases ef0_1;obtain ⟨lf0_2, rf0_2⟩ := Rd.of_one Try.underlying22 Try.underlying5 (by kernel_rfl) t0_2;obtain ⟨nf0_3, ef0_3, _, wff0_3⟩ := DataW.trod_int Try.underlying5 t0_3;cases ef0_3;clear hA0 hval0;refine (aeE f0_0_0 f0_0_1 f0_0_2 f0_0_3 f0_0_4 f0_2 Ef0_0 lf0_2 sf0_1 nf0_3 W rf0_0 rf0_2 (wf8 wff0_3)).mono fun e W' ⟨he, bel⟩ => ?_
 subst he;exact ⟨_, rfl, _, _, _, [], _, [], hW', trodAll_mk1 (shut_bool Try.underlying4 _), (trodAll_cons_mk (Below.trod laidOut (by kernel_rfl) (of_decide_eq_true (by kernel_rfl)) k0 bel lt0) trodAll_mk0), rfl, bel.frame _, fun h => by cases h⟩
theorem over : Rows.schedExportsRow.holds Try.pinned (OpenSpec.ofChange Rows.schedExportsSpec) :=
 OpenClaim.holds_of_wide 9 Try.f9 rfl rfl rfl rfl rfl rfl rfl ⟨rfl, rfl, rfl, rfl, rfl⟩ rfl rfl rfl rfl rfl (by kernel_rfl) Try.func9 (by kernel_rfl)
  (of_decide_eq_true (by kernel_rfl)) (by unfold Func.isWrapper; first | (rw [if_pos (by decide +kernel)]; kernel_rfl) | (rw [if_neg (by decide +kernel)]; exact ⟨rfl, rfl⟩))
  (fun os started H enc _ => lifted os started H enc)
theorem proved : Rows.SchedExportsSaid := over
end Go.Proofs.Ytbhkdlpdolioaaa.schedExports
