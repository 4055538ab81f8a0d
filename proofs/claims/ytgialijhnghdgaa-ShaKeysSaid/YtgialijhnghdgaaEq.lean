/- Two arrays of words that are the same are equal. -/
import Derived.Test.YtgialijhnghdgaaBlock
import Derived.ChangeKeysEq
import Derived.Laws.StructEq
set_option linter.unusedVariables false
set_option linter.unusedSimpArgs false
namespace Go.Proofs.Ytgialijhnghdgaa
open Go.RowKit

section
variable {P : Program}
theorem run_part_words (w : World) (e : TypeId) (d : TypeDesc) (hd : P.underlying e = some d) (hp : (match d with | .struct _ | .array _ _ => true | _ => false) = false) (cs : Array Value) (i : Nat) (v : Value) (hv : cs[i]? = some v) : (part e cs i).run P w = .ok v w := by
  have hagg : (isAgg e).run P w = .ok false w := by
    unfold isAgg
    rw [Sem.run_bind, run_underlying hd w]
    cases d <;> simp_all
  simp [part, Sem.run_bind, hagg, hv]
theorem items_same (w : World) (d : Nat) (e : TypeId) (he : P.underlying e = some (.int .u32)) (l : List UInt32) : ∀ L : List Nat, (∀ i ∈ L, i < l.length) → (Op.eqItems (d + 1) e 1 (wcells l) (wcells l) L).run P w = .ok true w
  | [], _ => by simp [Op.eqItems]
  | i :: L, h => by
    have hi := wcells_get l i (h i (by simp))
    have hp := run_part_words w e _ he rfl (wcells l) (i * 1) _ (by rw [Nat.mul_one]; exact hi)
    have ih := items_same w d e he l L (fun j hj => h j (by simp [hj]))
    simp only [Op.eqItems, Sem.run_bind, hp, Result.andThen_ok, run_equalIn_int w d e .u32 .u32 _ _ he]
    simp [ih]
theorem eql_words (w : World) (t e : TypeId) (n : Nat) (ht : P.underlying t = some (.array n e)) (he : P.underlying e = some (.int .u32)) (hc : P.cellsOf e = 1) (hi : ∃ i, P.info? e = some i) (l : List UInt32) (hl : l.length = n) :
    (binOp .eql t (.agg (wcells l)) (.agg (wcells l))).run P w = .ok (.bool true) w := by
  obtain ⟨i, hi⟩ := hi
  rw [run_eql_struct, run_equalIn_array w 9999 _ _ ht hi, hc, items_same w 9998 e he l (List.range n) (fun j hj => by rw [hl]; exact List.mem_range.1 hj)]
  rfl
end
theorem eql8 (s : S8) (w : World) : (binOp .eql 28 (.agg (wcells s.list)) (.agg (wcells s.list))).run Try.prog w = .ok (.bool true) w :=
  eql_words w _ _ 8 Try.underlying28 Try.underlying27 (by kernel_rfl) (by obtain ⟨i, h, _⟩ := u32_info; exact ⟨i, h⟩) s.list rfl
theorem eql8' (s : S8) (w : World) : (binOp .eql 28 (.agg #[.int .u32 (u s.a), .int .u32 (u s.b), .int .u32 (u s.c), .int .u32 (u s.d), .int .u32 (u s.e), .int .u32 (u s.f), .int .u32 (u s.g), .int .u32 (u s.h)])
    (.agg #[.int .u32 (u s.a), .int .u32 (u s.b), .int .u32 (u s.c), .int .u32 (u s.d), .int .u32 (u s.e), .int .u32 (u s.f), .int .u32 (u s.g), .int .u32 (u s.h)])).run Try.prog w = .ok (.bool true) w := eql8 s w
end Go.Proofs.Ytgialijhnghdgaa
