/- SchedContexts: the law of that name answers true at every input, and leaves its arguments as they were. No further condition. -/
import Derived.Test.YtbhkdlpdolioaaaQ2
import Derived.Test.YtbhkdlpdolioaaaQ3
import Derived.Test.YtbhkdlpdolioaaaQ30
import Derived.Test.YtbhkdlpdolioaaaQ41
import Derived.OpenShut
import Derived.ShutString
import Derived.ChangeOld
set_option linter.unusedVariables false
set_option linter.unusedSimpArgs false
namespace Go.Proofs.Ytbhkdlpdolioaaa.schedContexts
open Go.ChangeShapes Go.WideShapes Go.ChangeAt Go.RowKit
open Go.ChangeMaps (open_string shut_string)
theorem own : ownKnob Try.prog.godebug = none := by kernel_rfl
theorem laidOut : laidOutB Try.prog = true := by kernel_rfl
set_option maxRecDepth 100000 in
theorem lifted (os : Os) (started : os.Started) (H : Type) (enc : TypeId × Value → H) :
  ReturnsInHanded {} Try.checked os 6 .any (Rows.schedContextsSpec.pre6 enc Try.prog Try.f6 Rows.schedContextsRow.domain false) (Rows.schedContextsSpec.post enc Try.prog Try.f6 false true false false) := by
 refine returnsInHanded_of_change (C := Try.checked) own started (by kernel_rfl) Try.func6
  (ChangeSpec.witness6 (enc := enc) (C := Try.checked) false ⟨#[], #[.agg #[.slice none 0 0, .slice none 0 0, .int .u32 0, .int .u32 0, .int .u8 0, .int .u8 0]], []⟩ 8 (by kernel_rfl) (by kernel_rfl) (by kernel_rfl) (by kernel_rfl)) ?_
 intro W base args ds gs before hval0 hW hcnd _;have hval : ∀ (j : Nat) t v, Try.f6.params[j]? = some t → args[j]? = some v → Value.okWide Try.prog W .any base t v := hval0;have hW' := hW;obtain ⟨p, q, hA0, hV, rfl, hfz, hnd⟩ := hW;have hA : DataW.TrodAll enc Try.prog W 0 (fun _ => true) true Try.f6.params.toList args.toList ds p := hA0;rw [Try.params6] at hA hval;obtain ⟨v0, vs0, d0, ds0, p0, q0, hargs, rfl, rfl, h0, r0⟩ := trodAll_cons hA;obtain ⟨rfl, rfl, rfl⟩ := trodAll_nil r0;obtain rfl : args = #[v0] := by cases args; simp_all
 obtain ⟨rfl, rfl⟩ := trodVars_none hV;have k0 := h0;have lt0 : ∀ x ∈ p0, x.block < W.heap.size := by obtain ⟨m, hm⟩ := k0; exact DataW.trod_lt m _ _ _ hm
 obtain ⟨f0_0, f0_1, f0_2, f0_3, f0_4, f0_5, y0_0, y0_1, y0_2, y0_3, y0_4, y0_5, _, rfl, ed0, t0_0, t0_1, t0_2, t0_3, t0_4, t0_5⟩ := abT Try.underlying61 (by kernel_rfl) (by kernel_rfl) (hval 0 61 v0 rfl rfl) h0;obtain ⟨lf0_0, rf0_0⟩ := Rd.of_one Try.underlying22 Try.underlying5 (by kernel_rfl) t0_0;obtain ⟨lf0_1, rf0_1⟩ := Rd.of_one Try.underlying22 Try.underlying5 (by kernel_rfl) t0_1;obtain ⟨nf0_2, ef0_2, _, wff0_2⟩ := DataW.trod_int Try.underlying59 t0_2;cases ef0_2;obtain ⟨nf0_3, ef0_3, _, wff0_3⟩ := DataW.trod_int Try.underlying59 t0_3;cases ef0_3;obtain ⟨nf0_4, ef0_4, _, wff0_4⟩ := DataW.trod_int Try.underlying5 t0_4;cases ef0_4;obtain ⟨nf0_5, ef0_5, _, wff0_5⟩ := DataW.trod_int Try.underlying5 t0_5;cases ef0_5;clear hA0 hval0;refine (aef f0_0 f0_1 lf0_0 lf0_1 nf0_2 nf0_3 nf0_4 nf0_5 W rf0_0 rf0_1 (wf32 wff0_2) (wf32 wff0_3) (wf8 wff0_4) (wf8 wff0_5)).mono fun e W' ⟨he, bel⟩ => ?_
 subst he;exact ⟨_, rfl, _, _, _, [], _, [], hW', trodAll_mk1 (shut_bool Try.underlying4 _), (trodAll_cons_mk (Below.trod laidOut (by kernel_rfl) (of_decide_eq_true (by kernel_rfl)) k0 bel lt0) trodAll_mk0), rfl, bel.frame _, fun h => by cases h⟩
theorem over : Rows.schedContextsRow.holds Try.pinned (OpenSpec.ofChange Rows.schedContextsSpec) :=
 OpenClaim.holds_of_wide 6 Try.f6 rfl rfl rfl rfl rfl rfl rfl ⟨rfl, rfl, rfl, rfl, rfl⟩ rfl rfl rfl rfl rfl (by kernel_rfl) Try.func6 (by kernel_rfl)
  (of_decide_eq_true (by kernel_rfl)) (by unfold Func.isWrapper; first | (rw [if_pos (by decide +kernel)]; kernel_rfl) | (rw [if_neg (by decide +kernel)]; exact ⟨rfl, rfl⟩))
  (fun os started H enc _ => lifted os started H enc)
theorem proved : Rows.SchedContextsSaid := over
end Go.Proofs.Ytbhkdlpdolioaaa.schedContexts
