/- tree's eight calls, proved of the code itself. -/
import Derived.Test.YtnpobcggadojkaaGreatDoorRefTree9
import Derived.Test.YtnpobcggadojkaaGreatDoorMathCode9
import Derived.Test.YtnpobcggadojkaaGreatDoorTreeRightX
import Derived.Test.YtnpobcggadojkaaGreatDoorTreeIt9
import Derived.Test.YtnpobcggadojkaaGreatDoorTreeAdded
import Derived.Test.YtnpobcggadojkaaGreatDoorTreeRem
import Derived.Test.YtnpobcggadojkaaGreatDoorTreeUpd
import Derived.Test.YtnpobcggadojkaaGreatDoorTreeResolve
import Derived.Test.YtnpobcggadojkaaGreatDoorTreeSame
set_option linter.unusedVariables false
set_option linter.unusedSimpArgs false
namespace Go.Proofs.YtnpobcggadojkaaGreatDoor
open Go.RowKit
theorem treeSame_any (u v : Value) (t s : List Nod) (w : World) (hu : NL w u t) (hv : NL w v s) (hl : t.length ≤ 100000) (hm : s.length ≤ 100000) (hT : Tab w) :
    Calls Tryz.prog 15 #[u, v] w fun e w' => Tells e (t = s) ∧ Kp w w' := treeSame_own u v t s w hu hv
end Go.Proofs.YtnpobcggadojkaaGreatDoor
