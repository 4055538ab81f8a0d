/- Rows, and what may lack: byt's, and the document's own answers. -/
import Derived.Test.YtfnkcdcbjcoefaaTakeLen
set_option linter.unusedVariables false
set_option linter.unusedSimpArgs false
namespace Go.Proofs.Ytfnkcdcbjcoefaa
open Go.RowKit

/-- append(head, x...), and what stays. -/
theorem row_end {w w1 w2 : World} {v : Value} {v' : Value} {l x : List UInt8} (ho : Ow 5 w1 w.heap.size v l) (hk : Kp w w1) (hg : w1.grownBy w2 v.ownBlock) : Kp w w2 :=
  Kp.grown hk hg ho.own_ge

theorem lenBytes_le (n : Nat) : (lenBytes n).length ≤ 4 := by
  unfold lenBytes
  split
  · rw [be_length]; omega
  · split <;> (rw [be_length]; omega)

end Go.Proofs.Ytfnkcdcbjcoefaa
