/- pyxref01.Same; bytes in slices at this dump. -/
import Derived.Test.YtdcbljfacmidjaaGreatBase
import Derived.Test.YtdcbljfacmidjaaGreatRows
import Derived.WalkSpells
import Derived.Lib.Hide
import Derived.Outline
set_option linter.unusedVariables false
set_option linter.unusedSimpArgs false
namespace Go.Proofs.YtdcbljfacmidjaaGreat
open Go.RowKit

theorem same_any (u v : Value) (l m : List UInt8) (w : World) (h : Rd w u l) (h' : Rd w v m) :
    Calls Tryz.prog 9 #[u, v] w fun e w' => e = .returned (.bool (decide (l = m))) ∧ w = w' := by
  have c1 := run_string_rd w 22 9 5 u l h Tryz.underlying22 Tryz.underlying5 Tryz.underlying9
  have c2 := run_string_rd w 22 9 5 v m h' Tryz.underlying22 Tryz.underlying5 Tryz.underlying9
  go_enter Tryz.func9, Tryz.ntmps9
  go_wp2
  go_ret
  exact ⟨by simp [Bool.beq_eq_decide_eq], rfl⟩

theorem Tryz.info5 : (Tryz.prog.info? 5).map (fun i => (i.zero, i.size, i.bytes)) = some (some (.int .u8 0), 1, 1) := by kernel_rfl

theorem u8 : U8 Tryz.prog 22 5 := U8.mk' Tryz.underlying22 Tryz.info5
end Go.Proofs.YtdcbljfacmidjaaGreat
