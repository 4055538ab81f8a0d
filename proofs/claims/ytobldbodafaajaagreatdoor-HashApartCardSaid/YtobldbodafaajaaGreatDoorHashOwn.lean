/- hash's five calls, proved of the code itself. -/
import Derived.Test.YtobldbodafaajaaGreatDoorHashA10
import Derived.Test.YtobldbodafaajaaGreatDoorHashDigest
import Derived.Test.YtobldbodafaajaaGreatDoorHashAbove
import Derived.Test.YtobldbodafaajaaGreatDoorHashHeld
import Derived.Test.YtobldbodafaajaaGreatDoorHashLaid
set_option linter.unusedVariables false
set_option linter.unusedSimpArgs false
namespace Go.Proofs.YtobldbodafaajaaGreatDoor
open Go.RowKit
theorem hashNode_any (v : Value) (n : Nod) (w : World) (hv : NV w v n) (hn : TidyN n) (hTab : Tab w) :
    Calls Tryz.prog 13 #[v] w fun e w' => (∃ r, e = .returned r ∧ Rd w' r (nodeB n)) ∧ Kp w w' :=
  (hashNode_own v n w hv hn).mono fun _ _ ⟨⟨r, h1, h2⟩, h3⟩ => ⟨⟨r, h1, h2.rd⟩, h3⟩
end Go.Proofs.YtobldbodafaajaaGreatDoor
