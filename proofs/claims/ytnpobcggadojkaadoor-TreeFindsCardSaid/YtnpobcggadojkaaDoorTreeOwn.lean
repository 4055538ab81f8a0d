/- tree's eight calls, proved of the code itself. -/
import Derived.Test.YtnpobcggadojkaaDoorRefTree9
import Derived.Test.YtnpobcggadojkaaDoorMathCode9
import Derived.Test.YtnpobcggadojkaaDoorTreeRightX
import Derived.Test.YtnpobcggadojkaaDoorTreeIt9
import Derived.Test.YtnpobcggadojkaaDoorTreeAdded
import Derived.Test.YtnpobcggadojkaaDoorTreeRem
import Derived.Test.YtnpobcggadojkaaDoorTreeUpd
import Derived.Test.YtnpobcggadojkaaDoorTreeResolve
import Derived.Test.YtnpobcggadojkaaDoorTreeSame
set_option linter.unusedVariables false
set_option linter.unusedSimpArgs false
namespace Go.Proofs.YtnpobcggadojkaaDoor
open Go.RowKit
theorem treeSame_any (u v : Value) (t s : List Nod) (w : World) (hu : NL w u t) (hv : NL w v s) (hl : t.length ≤ 100000) (hm : s.length ≤ 100000) (hT : Tab w) :
    Calls Tryd.prog 21 #[u, v] w fun e w' => Tells e (t = s) ∧ Kp w w' := treeSame_own u v t s w hu hv
end Go.Proofs.YtnpobcggadojkaaDoor
