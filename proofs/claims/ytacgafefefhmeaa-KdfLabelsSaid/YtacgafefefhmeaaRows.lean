/-
  No cell of these rows narrows 'for every input' (looked for: loops, veiled, ifaces, maps, wideKeys, modest, calm, conditions, laid).
  DERIVED. THE GIVEN ROWS OF THIS SEAT. 5 by the template 'for every input the law returns true; each argument reads behind the call as it read before'; 0 by the template 'total and deterministic' (their statements: YtacgafefefhmeaaTotals.lean).
  GIVEN WITH THE SEED: the statements are not yours to turn. If you find one false, say at which input.
  Laid BY PROGRAM, IN A SANDBOX (cutbox-rows.mjs): the forced cells as the released guide's own fill.sh prints them over the translation e5eb2088fb8352a8… (all of the seat's roots in one cut). By AI agents, Wed Nov 11 2026. No macro, syntax, notation, axiom, sorry.
-/
import Derived.Test.YtacgafefefhmeaaChecked
import GoSem.Claim
import GoSem.ClaimJoined
import GoSem.ClaimMapViews
import Derived.JoinedTies
import Derived.KernelRfl
namespace Go.Proofs.Ytacgafefefhmeaa
/- THE CELL 'sum', in the pinned program and in every row, IS THE sha256 OF THE DUMP (.gsa) THAT YtacgafefefhmeaaProg.lean LOADS. Nothing in Lean hashes anything: it is a label: what it is worth is what the hold of that sum in a sandbox is worth. -/
noncomputable def Try.pinned : Pinned := { name := "ytacgafefefhmeaa", sum := "e5eb2088fb8352a8e947a619e84f7d16c8af0d76270eff2994e6e2b222666c1e", checked := Try.checked }
namespace Rows
def none {H : Type} : Left H := { results := [], args := [] }

/-- 'pyxlaw04.KdfTells': WHATEVER THE INPUT: true; the input reads as it did. -/
def kdfTellsSpec : ChangeSpec := { name := "kdfTells", fn := fun _ => fun
  | [d] => { results := [.lit (.bool true)], args := [d] }
  | _ => none }
def kdfTellsRow : OpenClaim := { program := "ytacgafefefhmeaa", sum := "e5eb2088fb8352a8e947a619e84f7d16c8af0d76270eff2994e6e2b222666c1e", func := "pyx/pyxlaw04.KdfTells", spec := "kdfTells", unfollowed := true, recurses := true, apart := false }
def KdfTellsSaid : Prop := kdfTellsRow.holds Try.pinned (OpenSpec.ofChange kdfTellsSpec)

/-- ITS FALSE NEIGHBOUR: 'it returns false'. Refute it at one input. -/
def kdfTellsWrong : ChangeSpec := { name := "kdfTells", fn := fun _ => fun
  | [d] => { results := [.lit (.bool false)], args := [d] }
  | _ => none }
def KdfTellsWrongFalsely : Prop := kdfTellsRow.holds Try.pinned (OpenSpec.ofChange kdfTellsWrong)

/-- 'pyxlaw04.KdfPass': WHATEVER THE INPUT: true; the input reads as it did. -/
def kdfPassSpec : ChangeSpec := { name := "kdfPass", fn := fun _ => fun
  | [d] => { results := [.lit (.bool true)], args := [d] }
  | _ => none }
def kdfPassRow : OpenClaim := { program := "ytacgafefefhmeaa", sum := "e5eb2088fb8352a8e947a619e84f7d16c8af0d76270eff2994e6e2b222666c1e", func := "pyx/pyxlaw04.KdfPass", spec := "kdfPass", unfollowed := true, recurses := true, apart := false }
def KdfPassSaid : Prop := kdfPassRow.holds Try.pinned (OpenSpec.ofChange kdfPassSpec)

/-- ITS FALSE NEIGHBOUR: 'it returns false'. Refute it at one input. -/
def kdfPassWrong : ChangeSpec := { name := "kdfPass", fn := fun _ => fun
  | [d] => { results := [.lit (.bool false)], args := [d] }
  | _ => none }
def KdfPassWrongFalsely : Prop := kdfPassRow.holds Try.pinned (OpenSpec.ofChange kdfPassWrong)

/-- 'pyxlaw04.KdfBegins': WHATEVER THE INPUT: true; the input reads as it did. -/
def kdfBeginsSpec : ChangeSpec := { name := "kdfBegins", fn := fun _ => fun
  | [d] => { results := [.lit (.bool true)], args := [d] }
  | _ => none }
def kdfBeginsRow : OpenClaim := { program := "ytacgafefefhmeaa", sum := "e5eb2088fb8352a8e947a619e84f7d16c8af0d76270eff2994e6e2b222666c1e", func := "pyx/pyxlaw04.KdfBegins", spec := "kdfBegins", unfollowed := true, recurses := true, apart := false }
def KdfBeginsSaid : Prop := kdfBeginsRow.holds Try.pinned (OpenSpec.ofChange kdfBeginsSpec)

/-- ITS FALSE NEIGHBOUR: 'it returns false'. Refute it at one input. -/
def kdfBeginsWrong : ChangeSpec := { name := "kdfBegins", fn := fun _ => fun
  | [d] => { results := [.lit (.bool false)], args := [d] }
  | _ => none }
def KdfBeginsWrongFalsely : Prop := kdfBeginsRow.holds Try.pinned (OpenSpec.ofChange kdfBeginsWrong)

/-- 'pyxlaw04.KdfLabels': WHATEVER THE INPUT: true; the input reads as it did. -/
def kdfLabelsSpec : ChangeSpec := { name := "kdfLabels", fn := fun _ => fun
  | [d] => { results := [.lit (.bool true)], args := [d] }
  | _ => none }
def kdfLabelsRow : OpenClaim := { program := "ytacgafefefhmeaa", sum := "e5eb2088fb8352a8e947a619e84f7d16c8af0d76270eff2994e6e2b222666c1e", func := "pyx/pyxlaw04.KdfLabels", spec := "kdfLabels", unfollowed := true, recurses := true, apart := false }
def KdfLabelsSaid : Prop := kdfLabelsRow.holds Try.pinned (OpenSpec.ofChange kdfLabelsSpec)

/-- ITS FALSE NEIGHBOUR: 'it returns false'. Refute it at one input. -/
def kdfLabelsWrong : ChangeSpec := { name := "kdfLabels", fn := fun _ => fun
  | [d] => { results := [.lit (.bool false)], args := [d] }
  | _ => none }
def KdfLabelsWrongFalsely : Prop := kdfLabelsRow.holds Try.pinned (OpenSpec.ofChange kdfLabelsWrong)

/-- 'pyxlaw04.KdfRounds': WHATEVER THE INPUT: true; the input reads as it did. -/
def kdfRoundsSpec : ChangeSpec := { name := "kdfRounds", fn := fun _ => fun
  | [d1, d2, d3] => { results := [.lit (.bool true)], args := [d1, d2, d3] }
  | _ => none }
def kdfRoundsRow : OpenClaim := { program := "ytacgafefefhmeaa", sum := "e5eb2088fb8352a8e947a619e84f7d16c8af0d76270eff2994e6e2b222666c1e", func := "pyx/pyxlaw04.KdfRounds", spec := "kdfRounds", unfollowed := true, recurses := true, apart := false }
def KdfRoundsSaid : Prop := kdfRoundsRow.holds Try.pinned (OpenSpec.ofChange kdfRoundsSpec)

/-- ITS FALSE NEIGHBOUR: 'it returns false'. Refute it at one input. -/
def kdfRoundsWrong : ChangeSpec := { name := "kdfRounds", fn := fun _ => fun
  | [d1, d2, d3] => { results := [.lit (.bool false)], args := [d1, d2, d3] }
  | _ => none }
def KdfRoundsWrongFalsely : Prop := kdfRoundsRow.holds Try.pinned (OpenSpec.ofChange kdfRoundsWrong)

/- THE SECOND FORM. 'bulk': how many values and letters a reading holds, each counted each time it is reached (what is shared counts as often as it is met; a slice's spare places count too). A statement '..UptoSaid' is the law's where the arguments, and the package variables that the reading takes, are together of bulk at most 1048576: NARROWER than '..Said'. Prove '..Said' where nothing that the law and all that it calls make is longer than what came in: it says more and counts as full. Else prove '..UptoSaid'. A law counts once. -/
mutual
def uptoBulk {H : Type} : DataW H → Nat
  | .lit (.string bytes) => bytes.length + 1
  | .lit _ => 1
  | .nil => 1
  | .ptr d => uptoBulk d + 1
  | .slice elems spare => uptoBulkAll elems + uptoBulkAll spare + 1
  | .agg parts => uptoBulkAll parts + 1
  | .iface _ d => uptoBulk d + 1
  | .map entries => uptoBulkEntries entries + 1
  | .held _ => 1
def uptoBulkAll {H : Type} : List (DataW H) → Nat
  | [] => 0
  | d :: r => uptoBulk d + uptoBulkAll r
def uptoBulkEntries {H : Type} : List (Lit × DataW H) → Nat
  | [] => 0
  | x :: r => uptoBulkEntry x + uptoBulkEntries r
def uptoBulkEntry {H : Type} : Lit × DataW H → Nat
  | (.string bytes, d) => bytes.length + uptoBulk d + 1
  | (_, d) => uptoBulk d + 1
 end
def uptoSmall : (H : Type) → List (DataW H) → Bool := fun _ ds => decide (uptoBulkAll ds ≤ 1048576)
def OpenSpec.upto (s : _root_.Go.ChangeSpec) : _root_.Go.OpenSpec := { _root_.Go.OpenSpec.ofChange s with cond := some uptoSmall }

/-- 'pyxlaw04.KdfTells', WHERE WHAT IT READS IS OF BULK AT MOST 1048576: true; the input reads as it did. -/
def kdfTellsUptoRow : OpenClaim := { program := "ytacgafefefhmeaa", sum := "e5eb2088fb8352a8e947a619e84f7d16c8af0d76270eff2994e6e2b222666c1e", func := "pyx/pyxlaw04.KdfTells", spec := "kdfTells", unfollowed := true, recurses := true, apart := false, narrowed := true }
def KdfTellsUptoSaid : Prop := kdfTellsUptoRow.holds Try.pinned (OpenSpec.upto kdfTellsSpec)

/-- 'pyxlaw04.KdfPass', WHERE WHAT IT READS IS OF BULK AT MOST 1048576: true; the input reads as it did. -/
def kdfPassUptoRow : OpenClaim := { program := "ytacgafefefhmeaa", sum := "e5eb2088fb8352a8e947a619e84f7d16c8af0d76270eff2994e6e2b222666c1e", func := "pyx/pyxlaw04.KdfPass", spec := "kdfPass", unfollowed := true, recurses := true, apart := false, narrowed := true }
def KdfPassUptoSaid : Prop := kdfPassUptoRow.holds Try.pinned (OpenSpec.upto kdfPassSpec)

/-- 'pyxlaw04.KdfBegins', WHERE WHAT IT READS IS OF BULK AT MOST 1048576: true; the input reads as it did. -/
def kdfBeginsUptoRow : OpenClaim := { program := "ytacgafefefhmeaa", sum := "e5eb2088fb8352a8e947a619e84f7d16c8af0d76270eff2994e6e2b222666c1e", func := "pyx/pyxlaw04.KdfBegins", spec := "kdfBegins", unfollowed := true, recurses := true, apart := false, narrowed := true }
def KdfBeginsUptoSaid : Prop := kdfBeginsUptoRow.holds Try.pinned (OpenSpec.upto kdfBeginsSpec)

/-- 'pyxlaw04.KdfLabels', WHERE WHAT IT READS IS OF BULK AT MOST 1048576: true; the input reads as it did. -/
def kdfLabelsUptoRow : OpenClaim := { program := "ytacgafefefhmeaa", sum := "e5eb2088fb8352a8e947a619e84f7d16c8af0d76270eff2994e6e2b222666c1e", func := "pyx/pyxlaw04.KdfLabels", spec := "kdfLabels", unfollowed := true, recurses := true, apart := false, narrowed := true }
def KdfLabelsUptoSaid : Prop := kdfLabelsUptoRow.holds Try.pinned (OpenSpec.upto kdfLabelsSpec)

/-- 'pyxlaw04.KdfRounds', WHERE WHAT IT READS IS OF BULK AT MOST 1048576: true; the input reads as it did. -/
def kdfRoundsUptoRow : OpenClaim := { program := "ytacgafefefhmeaa", sum := "e5eb2088fb8352a8e947a619e84f7d16c8af0d76270eff2994e6e2b222666c1e", func := "pyx/pyxlaw04.KdfRounds", spec := "kdfRounds", unfollowed := true, recurses := true, apart := false, narrowed := true }
def KdfRoundsUptoSaid : Prop := kdfRoundsUptoRow.holds Try.pinned (OpenSpec.upto kdfRoundsSpec)

end Rows
end Go.Proofs.Ytacgafefefhmeaa
