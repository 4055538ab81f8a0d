/- TreeStays, TreeBack (written by gen/tree5.py). -/
import Derived.Test.YtnpobcggadojkaaDoorLawTreeA
set_option linter.unusedVariables false
set_option linter.unusedSimpArgs false
namespace Go.Proofs.YtnpobcggadojkaaDoor
open Go.RowKit

end Go.Proofs.YtnpobcggadojkaaDoor
