/- The document's example of layer 7: plain. -/
import Derived.Test.YtdcbljfacmidjaaGreatSigPlain
set_option linter.unusedVariables false
set_option linter.unusedSimpArgs false
namespace Go.Proofs.YtdcbljfacmidjaaGreat
open Go.RowKit

def seed7 : List UInt8 := List.replicate 32 0
def pub7 : List UInt8 := [165, 236, 109, 213, 127, 143, 188, 41, 182, 185, 181, 124, 115, 101, 206, 139, 126, 170, 195, 35, 41, 1, 1, 77, 33, 15, 188, 95, 80, 179, 153, 218]
theorem pub7_shown : pubB seed7 = pub7 := by decide +kernel
theorem sig7_one : sigB pub7 [120] [1] = [66, 247, 217, 63, 98, 68, 119, 181, 81, 224, 220, 232, 111, 179, 102, 10, 248, 173, 70, 176, 73, 50, 162, 229, 176, 39, 45, 107, 212, 245, 99, 174] := by decide +kernel
theorem sig7_two : sigB pub7 [120] [2] = [56, 64, 196, 118, 209, 146, 237, 213, 34, 89, 219, 78, 146, 112, 240, 111, 149, 165, 139, 50, 1, 181, 44, 184, 35, 87, 34, 169, 23, 125, 250, 107] := by decide +kernel
theorem sig7_other : sigB (pubB seed7) [120] [2] ≠ sigB (pubB seed7) [120] [1] := by
  rw [pub7_shown, sig7_one, sig7_two]
  decide
theorem seed7_length : seed7.length = 32 := rfl
end Go.Proofs.YtdcbljfacmidjaaGreat
