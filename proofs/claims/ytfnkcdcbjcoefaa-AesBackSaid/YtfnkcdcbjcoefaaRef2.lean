/- The document's own TakeLen and TakeRow. -/
import Derived.Test.YtfnkcdcbjcoefaaRow2
set_option linter.unusedVariables false
set_option linter.unusedSimpArgs false
namespace Go.Proofs.Ytfnkcdcbjcoefaa
open Go.RowKit

end Go.Proofs.Ytfnkcdcbjcoefaa
