/- An array by value, indexed. -/
import Derived.Test.YtfnkcdcbjcoefaaArr
import Derived.Laws.PanicsMore
set_option linter.unusedVariables false
set_option linter.unusedSimpArgs false
namespace Go.Proofs.Ytfnkcdcbjcoefaa
open Go.RowKit
theorem run_index_arr {P : Program} (w : World) (t e : TypeId) (n : Nat) (ie : TypeInfo) (d : TypeDesc) (h : P.underlying t = some (.array n e)) (hi : P.info? e = some ie) (hs : ie.size = 1) (hd : P.underlying e = some d)
    (hp : (match d with | .struct _ | .array _ _ => true | _ => false) = false) (cs : Array Value) (hn : cs.size = n) (i : Nat) (hlt : i < n) (v : Value) (hv : cs[i]? = some v) :
    (Instr.index t (.agg cs) (.int .i64 i)).run P w = .ok v w := by
  have hr : (0 ≤ (i : Int) ∧ (i : Int) < (n : Int)) := by omega
  have hagg : (isAgg e).run P w = .ok false w := by
    unfold isAgg
    rw [Sem.run_bind, run_underlying hd w]
    cases d <;> simp_all
  simp [Instr.index, run_underlying h, asIntOf, hr, go_sem, part, sizeOf, typeInfo, hi, hs, hagg, hv, Sem.run_bind]
  intro hge
  omega
end Go.Proofs.Ytfnkcdcbjcoefaa
