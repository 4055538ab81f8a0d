/-
  No cell of these rows narrows 'for every input' (looked for: loops, veiled, ifaces, maps, wideKeys, modest, calm, conditions, laid).
  DERIVED. THE GIVEN ROWS OF THIS SEAT. 4 by the template 'for every input the law returns true; each argument reads behind the call as it read before'; 0 by the template 'total and deterministic' (their statements: YtdcbljfacmidjaaTotals.lean).
  GIVEN WITH THE SEED: the statements are not yours to turn. If you find one false, say at which input.
  Laid BY PROGRAM, IN A SANDBOX (cutbox-rows.mjs): the forced cells as the released guide's own fill.sh prints them over the translation f734319a92f10dc1… (all of the seat's roots in one cut). By AI agents, Wed Nov 11 2026. No macro, syntax, notation, axiom, sorry.
-/
import Derived.Test.YtdcbljfacmidjaaChecked
import GoSem.Claim
import GoSem.ClaimJoined
import GoSem.ClaimMapViews
import Derived.JoinedTies
import Derived.KernelRfl
namespace Go.Proofs.Ytdcbljfacmidjaa
/- THE CELL 'sum', in the pinned program and in every row, IS THE sha256 OF THE DUMP (.gsa) THAT YtdcbljfacmidjaaProg.lean LOADS. Nothing in Lean hashes anything: it is a label: what it is worth is what the hold of that sum in a sandbox is worth. -/
noncomputable def Try.pinned : Pinned := { name := "ytdcbljfacmidjaa", sum := "f734319a92f10dc179213795f830474d5188a2865ca261d284a84c4517855454", checked := Try.checked }
namespace Rows
def none {H : Type} : Left H := { results := [], args := [] }

/-- 'pyxlaw07.SigTells': WHATEVER THE INPUT: true; the input reads as it did. -/
def sigTellsSpec : ChangeSpec := { name := "sigTells", fn := fun _ => fun
  | [d] => { results := [.lit (.bool true)], args := [d] }
  | _ => none }
def sigTellsRow : OpenClaim := { program := "ytdcbljfacmidjaa", sum := "f734319a92f10dc179213795f830474d5188a2865ca261d284a84c4517855454", func := "pyx/pyxlaw07.SigTells", spec := "sigTells", unfollowed := true, recurses := true, apart := false }
def SigTellsSaid : Prop := sigTellsRow.holds Try.pinned (OpenSpec.ofChange sigTellsSpec)

/-- ITS FALSE NEIGHBOUR: 'it returns false'. Refute it at one input. -/
def sigTellsWrong : ChangeSpec := { name := "sigTells", fn := fun _ => fun
  | [d] => { results := [.lit (.bool false)], args := [d] }
  | _ => none }
def SigTellsWrongFalsely : Prop := sigTellsRow.holds Try.pinned (OpenSpec.ofChange sigTellsWrong)

/-- 'pyxlaw07.SigBack': WHATEVER THE INPUT: true; the input reads as it did. -/
def sigBackSpec : ChangeSpec := { name := "sigBack", fn := fun _ => fun
  | [d] => { results := [.lit (.bool true)], args := [d] }
  | _ => none }
def sigBackRow : OpenClaim := { program := "ytdcbljfacmidjaa", sum := "f734319a92f10dc179213795f830474d5188a2865ca261d284a84c4517855454", func := "pyx/pyxlaw07.SigBack", spec := "sigBack", unfollowed := true, recurses := true, apart := false }
def SigBackSaid : Prop := sigBackRow.holds Try.pinned (OpenSpec.ofChange sigBackSpec)

/-- ITS FALSE NEIGHBOUR: 'it returns false'. Refute it at one input. -/
def sigBackWrong : ChangeSpec := { name := "sigBack", fn := fun _ => fun
  | [d] => { results := [.lit (.bool false)], args := [d] }
  | _ => none }
def SigBackWrongFalsely : Prop := sigBackRow.holds Try.pinned (OpenSpec.ofChange sigBackWrong)

/-- 'pyxlaw07.SigSpoilt': WHATEVER THE INPUT: true; the input reads as it did. -/
def sigSpoiltSpec : ChangeSpec := { name := "sigSpoilt", fn := fun _ => fun
  | [d] => { results := [.lit (.bool true)], args := [d] }
  | _ => none }
def sigSpoiltRow : OpenClaim := { program := "ytdcbljfacmidjaa", sum := "f734319a92f10dc179213795f830474d5188a2865ca261d284a84c4517855454", func := "pyx/pyxlaw07.SigSpoilt", spec := "sigSpoilt", unfollowed := true, recurses := true, apart := false }
def SigSpoiltSaid : Prop := sigSpoiltRow.holds Try.pinned (OpenSpec.ofChange sigSpoiltSpec)

/-- ITS FALSE NEIGHBOUR: 'it returns false'. Refute it at one input. -/
def sigSpoiltWrong : ChangeSpec := { name := "sigSpoilt", fn := fun _ => fun
  | [d] => { results := [.lit (.bool false)], args := [d] }
  | _ => none }
def SigSpoiltWrongFalsely : Prop := sigSpoiltRow.holds Try.pinned (OpenSpec.ofChange sigSpoiltWrong)

/-- 'pyxlaw07.SigWrapped': WHATEVER THE INPUT: true; the input reads as it did. -/
def sigWrappedSpec : ChangeSpec := { name := "sigWrapped", fn := fun _ => fun
  | [d] => { results := [.lit (.bool true)], args := [d] }
  | _ => none }
def sigWrappedRow : OpenClaim := { program := "ytdcbljfacmidjaa", sum := "f734319a92f10dc179213795f830474d5188a2865ca261d284a84c4517855454", func := "pyx/pyxlaw07.SigWrapped", spec := "sigWrapped", unfollowed := true, recurses := true, apart := false }
def SigWrappedSaid : Prop := sigWrappedRow.holds Try.pinned (OpenSpec.ofChange sigWrappedSpec)

/-- ITS FALSE NEIGHBOUR: 'it returns false'. Refute it at one input. -/
def sigWrappedWrong : ChangeSpec := { name := "sigWrapped", fn := fun _ => fun
  | [d] => { results := [.lit (.bool false)], args := [d] }
  | _ => none }
def SigWrappedWrongFalsely : Prop := sigWrappedRow.holds Try.pinned (OpenSpec.ofChange sigWrappedWrong)

/- THE SECOND FORM. 'bulk': how many values and letters a reading holds, each counted each time it is reached (what is shared counts as often as it is met; a slice's spare places count too). A statement '..UptoSaid' is the law's where the arguments, and the package variables that the reading takes, are together of bulk at most 1048576: NARROWER than '..Said'. Prove '..Said' where nothing that the law and all that it calls make is longer than what came in: it says more and counts as full. Else prove '..UptoSaid'. A law counts once. -/
mutual
def uptoBulk {H : Type} : DataW H → Nat
  | .lit (.string bytes) => bytes.length + 1
  | .lit _ => 1
  | .nil => 1
  | .ptr d => uptoBulk d + 1
  | .slice elems spare => uptoBulkAll elems + uptoBulkAll spare + 1
  | .agg parts => uptoBulkAll parts + 1
  | .iface _ d => uptoBulk d + 1
  | .map entries => uptoBulkEntries entries + 1
  | .held _ => 1
def uptoBulkAll {H : Type} : List (DataW H) → Nat
  | [] => 0
  | d :: r => uptoBulk d + uptoBulkAll r
def uptoBulkEntries {H : Type} : List (Lit × DataW H) → Nat
  | [] => 0
  | x :: r => uptoBulkEntry x + uptoBulkEntries r
def uptoBulkEntry {H : Type} : Lit × DataW H → Nat
  | (.string bytes, d) => bytes.length + uptoBulk d + 1
  | (_, d) => uptoBulk d + 1
 end
def uptoSmall : (H : Type) → List (DataW H) → Bool := fun _ ds => decide (uptoBulkAll ds ≤ 1048576)
def OpenSpec.upto (s : _root_.Go.ChangeSpec) : _root_.Go.OpenSpec := { _root_.Go.OpenSpec.ofChange s with cond := some uptoSmall }

/-- 'pyxlaw07.SigTells', WHERE WHAT IT READS IS OF BULK AT MOST 1048576: true; the input reads as it did. -/
def sigTellsUptoRow : OpenClaim := { program := "ytdcbljfacmidjaa", sum := "f734319a92f10dc179213795f830474d5188a2865ca261d284a84c4517855454", func := "pyx/pyxlaw07.SigTells", spec := "sigTells", unfollowed := true, recurses := true, apart := false, narrowed := true }
def SigTellsUptoSaid : Prop := sigTellsUptoRow.holds Try.pinned (OpenSpec.upto sigTellsSpec)

/-- 'pyxlaw07.SigBack', WHERE WHAT IT READS IS OF BULK AT MOST 1048576: true; the input reads as it did. -/
def sigBackUptoRow : OpenClaim := { program := "ytdcbljfacmidjaa", sum := "f734319a92f10dc179213795f830474d5188a2865ca261d284a84c4517855454", func := "pyx/pyxlaw07.SigBack", spec := "sigBack", unfollowed := true, recurses := true, apart := false, narrowed := true }
def SigBackUptoSaid : Prop := sigBackUptoRow.holds Try.pinned (OpenSpec.upto sigBackSpec)

/-- 'pyxlaw07.SigSpoilt', WHERE WHAT IT READS IS OF BULK AT MOST 1048576: true; the input reads as it did. -/
def sigSpoiltUptoRow : OpenClaim := { program := "ytdcbljfacmidjaa", sum := "f734319a92f10dc179213795f830474d5188a2865ca261d284a84c4517855454", func := "pyx/pyxlaw07.SigSpoilt", spec := "sigSpoilt", unfollowed := true, recurses := true, apart := false, narrowed := true }
def SigSpoiltUptoSaid : Prop := sigSpoiltUptoRow.holds Try.pinned (OpenSpec.upto sigSpoiltSpec)

/-- 'pyxlaw07.SigWrapped', WHERE WHAT IT READS IS OF BULK AT MOST 1048576: true; the input reads as it did. -/
def sigWrappedUptoRow : OpenClaim := { program := "ytdcbljfacmidjaa", sum := "f734319a92f10dc179213795f830474d5188a2865ca261d284a84c4517855454", func := "pyx/pyxlaw07.SigWrapped", spec := "sigWrapped", unfollowed := true, recurses := true, apart := false, narrowed := true }
def SigWrappedUptoSaid : Prop := sigWrappedUptoRow.holds Try.pinned (OpenSpec.upto sigWrappedSpec)

end Rows
end Go.Proofs.Ytdcbljfacmidjaa
