/-
  DERIVED. GIVEN WITH THE SEED: THE CARDS: each row of YtobldbodafaajaaDoorRows.lean that lists a variable, with what it lists TIED to the program's text (the seventh form; the later family's looks); each row that meets fmt, with fmt's text TOLD by the authors' own Lean function (tested against real Go, not proved from fmt's source: count such statements apart). THE CARD IS WHAT COUNTS. Prove the row's statement (the work); the ties are given (YtobldbodafaajaaDoorTie.lean); close each card by the builder's one call (the guide's Derived/Test/ToyasCard.lean, 'card_holds'). Laid BY PROGRAM, IN A SANDBOX (cutbox-door.mjs). By AI agents, Wed Nov 11 2026. No macro, syntax, notation, axiom, sorry.
-/
import Derived.Test.YtobldbodafaajaaDoorRows
import GoSem.ClaimSeven
namespace Go.Proofs.YtobldbodafaajaaDoor
namespace Rows

/-- THE TIED CARD OF 'pyxlaw10.HashHolds'. -/
def hashHoldsCard : Claim7 := { stood := { row := hashHoldsRow, standIns := [], harness := (true, "17b6710ffec0332b9dd95a840dd8949579543fb0de23885656e59471ef2dcd45"), looks := false }, kinds := [], alts := [], laidByText := true, laidKinds := [.data, .data], laidTests := true, laidLooks := .later }
def HashHoldsCardSaid : Prop := Claim7.holds Tryd.pinned (.plain (OpenSpec.ofChange hashHoldsSpec)) hashHoldsCard

/-- THE TIED CARD OF 'pyxlaw10.HashLeaf'. -/
def hashLeafCard : Claim7 := { stood := { row := hashLeafRow, standIns := [], harness := (true, "17b6710ffec0332b9dd95a840dd8949579543fb0de23885656e59471ef2dcd45"), looks := false }, kinds := [], alts := [], laidByText := true, laidKinds := [.data, .data], laidTests := true, laidLooks := .later }
def HashLeafCardSaid : Prop := Claim7.holds Tryd.pinned (.plain (OpenSpec.ofChange hashLeafSpec)) hashLeafCard

/-- THE SECOND FORM's CARD OF 'pyxlaw10.HashHolds'. -/
def hashHoldsUptoCard : Claim7 := { stood := { row := hashHoldsUptoRow, standIns := [], harness := (true, "17b6710ffec0332b9dd95a840dd8949579543fb0de23885656e59471ef2dcd45"), looks := false }, kinds := [], alts := [], laidByText := true, laidKinds := [.data, .data], laidTests := true, laidLooks := .later }
def HashHoldsUptoCardSaid : Prop := Claim7.holds Tryd.pinned (.plain (OpenSpec.upto hashHoldsSpec)) hashHoldsUptoCard

/-- THE SECOND FORM's CARD OF 'pyxlaw10.HashLeaf'. -/
def hashLeafUptoCard : Claim7 := { stood := { row := hashLeafUptoRow, standIns := [], harness := (true, "17b6710ffec0332b9dd95a840dd8949579543fb0de23885656e59471ef2dcd45"), looks := false }, kinds := [], alts := [], laidByText := true, laidKinds := [.data, .data], laidTests := true, laidLooks := .later }
def HashLeafUptoCardSaid : Prop := Claim7.holds Tryd.pinned (.plain (OpenSpec.upto hashLeafSpec)) hashLeafUptoCard
end Rows
end Go.Proofs.YtobldbodafaajaaDoor
