/- Arguments, opened: arrays of eight words; the struct of ShaParts. -/
import Derived.Test.YtgialijhnghdgaaOpen
import Derived.Test.YtgialijhnghdgaaWfs
import Derived.Test.YtgialijhnghdgaaArr
import Derived.Test.YtgialijhnghdgaaBehind
import Derived.OpenShut
set_option linter.unusedVariables false
set_option linter.unusedSimpArgs false
namespace Go.Proofs.Ytgialijhnghdgaa
open Go.RowKit Go.ChangeShapes Go.WideShapes Go.Deep

section
variable {H : Type} {enc : TypeId × Value → H} {P : Program} {w : World} {base : Nat} {spare : Nat → Bool} {held : Bool}
theorem word_of {e : TypeId} {fuel : Nat} {v : Value} {x : DataW H × List MemPlace} (he : P.underlying e = some (.int .u32)) (h : DataW.trod enc P w base spare held fuel e [v] = some x) : ∃ y, v = .int .u32 (u y) := by
  obtain ⟨n, hn, _, hw⟩ := DataW.trod_int he h
  cases hn
  have hb := bounds_u32 hw
  exact ⟨UInt32.ofNat n.toNat, by rw [u_of _ (by omega), Int.toNat_of_nonneg hb.1]⟩
theorem take_one {α : Type} (l : List α) (i : Nat) (h : i < l.length) : (l.drop i).take 1 = [l[i]] := by
  rw [List.drop_eq_getElem_cons h]; rfl
theorem arr8_of {t e : TypeId} {fuel : Nat} {cs : List Value} {x : DataW H × List MemPlace} (ht : P.underlying t = some (.array 8 e)) (he : P.underlying e = some (.int .u32)) (hc : P.cellsOf e = 1) (hct : P.cellsOf t = 8)
    (h : DataW.trod enc P w base spare held fuel t cs = some x) : ∃ s : S8, cs = (wcells s.list).toList := by
  obtain ⟨xs, m, _, _, hl, hxl, hi⟩ := DataW.trod_array ht h
  rw [hct] at hl
  have key : ∀ i, i < 8 → ∃ y, cs[i]? = some (.int .u32 (u y)) := fun i h8 => by
    have h1 := hi i h8
    rw [hc, Nat.mul_one, take_one cs i (by omega), List.getElem?_eq_getElem (by omega)] at h1
    obtain ⟨y, hy⟩ := word_of he h1
    exact ⟨y, by rw [List.getElem?_eq_getElem (by omega), hy]⟩
  obtain ⟨y0, h0⟩ := key 0 (by omega)
  obtain ⟨y1, h1⟩ := key 1 (by omega)
  obtain ⟨y2, h2⟩ := key 2 (by omega)
  obtain ⟨y3, h3⟩ := key 3 (by omega)
  obtain ⟨y4, h4⟩ := key 4 (by omega)
  obtain ⟨y5, h5⟩ := key 5 (by omega)
  obtain ⟨y6, h6⟩ := key 6 (by omega)
  obtain ⟨y7, h7⟩ := key 7 (by omega)
  refine ⟨⟨y0, y1, y2, y3, y4, y5, y6, y7⟩, ?_⟩
  apply List.ext_getElem?
  intro i
  match i with
  | 0 => exact h0
  | 1 => exact h1
  | 2 => exact h2
  | 3 => exact h3
  | 4 => exact h4
  | 5 => exact h5
  | 6 => exact h6
  | 7 => exact h7
  | i + 8 =>
    rw [List.getElem?_eq_none (by omega)]
    rfl
theorem arr8_arg {t e : TypeId} {v : Value} {d : DataW H} {p : List MemPlace} {r : Reach} {b0 : Nat} (ht : P.underlying t = some (.array 8 e)) (he : P.underlying e = some (.int .u32)) (hc : P.cellsOf e = 1) (hct : P.cellsOf t = 8)
    (hv : Value.okWide P w r b0 t v) (h : DataW.Trod enc P w base spare held t v d p) : ∃ s : S8, v = .agg (wcells s.list) := by
  simp only [Value.okWide, ht] at hv
  obtain ⟨cs, rfl, _⟩ := hv
  obtain ⟨fuel, h⟩ := h
  obtain ⟨s, hs⟩ := arr8_of ht he hc hct h
  exact ⟨s, by congr 1; apply Array.ext'; exact hs⟩
theorem parts_arg {t tn ta te tb tu : TypeId} {f0 f1 f2 f3 : Field} {v : Value} {d : DataW H} {p : List MemPlace} {r : Reach} {b0 : Nat} (ht : P.underlying t = some (.struct #[f0, f1, f2, f3])) (hct : P.cellsOf t = 11)
    (k0 : f0.type = tn ∧ f0.offset = 0) (k1 : f1.type = tn ∧ f1.offset = 1) (k2 : f2.type = ta ∧ f2.offset = 2) (k3 : f3.type = tb ∧ f3.offset = 10) (hn : P.underlying tn = some (.int .i64)) (hcn : P.cellsOf tn = 1) (ha : P.underlying ta = some (.array 8 te)) (hca : P.cellsOf ta = 8)
    (he : P.underlying te = some (.int .u32)) (hce : P.cellsOf te = 1) (hb : P.underlying tb = some (.slice tu)) (hcb : P.cellsOf tb = 1) (hu : P.underlying tu = some (.int .u8)) (hcu : P.cellsOf tu = 1)
    (hv : Value.okWide P w r b0 t v) (h : DataW.Trod enc P w base spare held t v d p) :
    ∃ (i n : Int) (s : S8) (vb : Value) (l : List UInt8), v = .agg #[.int .i64 i, .int .i64 n, .int .u32 (u s.a), .int .u32 (u s.b), .int .u32 (u s.c), .int .u32 (u s.d), .int .u32 (u s.e), .int .u32 (u s.f), .int .u32 (u s.g), .int .u32 (u s.h), vb] ∧ Rd w vb l := by
  obtain ⟨cs, rfl, hsz⟩ := okWide_struct ht hv
  obtain ⟨fuel, h⟩ := h
  obtain ⟨xs, m, _, _, hl, hxl, hf⟩ := DataW.trod_struct ht h
  have hcl : cs.toList.length = 11 := by rw [Array.length_toList, hsz, hct]
  have hx : xs.length = 4 := hxl
  have e0 := hf 0 f0 rfl
  have e1 := hf 1 f1 rfl
  have e2 := hf 2 f2 rfl
  have e3 := hf 3 f3 rfl
  rw [k0.1, k0.2, hcn, List.getElem?_eq_getElem (by omega)] at e0
  rw [k1.1, k1.2, hcn, List.getElem?_eq_getElem (by omega)] at e1
  rw [k2.1, k2.2, hca, List.getElem?_eq_getElem (by omega)] at e2
  rw [k3.1, k3.2, hcb, List.getElem?_eq_getElem (by omega)] at e3
  change DataW.trod enc P w base spare held m tn ((cs.toList.drop 0).take 1) = _ at e0
  change DataW.trod enc P w base spare held m tn ((cs.toList.drop 1).take 1) = _ at e1
  change DataW.trod enc P w base spare held m ta ((cs.toList.drop 2).take 8) = _ at e2
  change DataW.trod enc P w base spare held m tb ((cs.toList.drop 10).take 1) = _ at e3
  rw [take_one _ 0 (by omega)] at e0
  rw [take_one _ 1 (by omega)] at e1
  rw [take_one _ 10 (by omega)] at e3
  obtain ⟨i, hi, _⟩ := DataW.trod_int hn e0
  obtain ⟨n, hn', _⟩ := DataW.trod_int hn e1
  obtain ⟨s, hs⟩ := arr8_of ha he hce hca e2
  obtain ⟨l, hr⟩ := Rd.of_one hb hu hcu e3
  refine ⟨i, n, s, _, l, ?_, hr⟩
  congr 1
  apply Array.ext'
  have hsplit : cs.toList = [cs.toList[0]'(by omega)] ++ ([cs.toList[1]'(by omega)] ++ ((cs.toList.drop 2).take 8 ++ [cs.toList[10]'(by omega)])) := by
    rw [← take_one _ 0 (by omega), ← take_one _ 1 (by omega), ← take_one _ 10 (by omega)]
    obtain ⟨ls⟩ := cs
    match ls, hcl with
    | [a0, a1, a2, a3, a4, a5, a6, a7, a8, a9, a10], _ => rfl
  rw [hs, hi, hn'] at hsplit
  exact hsplit
end
end Go.Proofs.Ytgialijhnghdgaa
