/- byt.TakeLen. -/
import Derived.Test.YtfnkcdcbjcoefaaLen
set_option linter.unusedVariables false
set_option linter.unusedSimpArgs false
namespace Go.Proofs.Ytfnkcdcbjcoefaa
open Go.RowKit

def TL (l : List UInt8) (at' : Int) (w : World) (e : Ending) (w' : World) : Prop :=
  e = .returned (.tuple #[.int .i64 (tlN l at'), .int .i64 (tlP l at'), .int .i64 (tlE l at')]) ∧ Kp w w'

end Go.Proofs.Ytfnkcdcbjcoefaa
