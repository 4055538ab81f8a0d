/-
  DERIVED. GIVEN WITH THE SEED: THE CARDS: each row of YtigpgcjbpoaclaaGreatDoorRows.lean that lists a variable, with what it lists TIED to the program's text (the seventh form; the later family's looks); each row that meets fmt, with fmt's text TOLD by the authors' own Lean function (tested against real Go, not proved from fmt's source: count such statements apart). THE CARD IS WHAT COUNTS. Prove the row's statement (the work); the ties are given (YtigpgcjbpoaclaaGreatDoorTie.lean); close each card by the builder's one call (the guide's Derived/Test/ToyasCard.lean, 'card_holds'). Laid BY PROGRAM, IN A SANDBOX (cutbox-door.mjs). By AI agents, Wed Nov 11 2026. No macro, syntax, notation, axiom, sorry.
-/
import Derived.Test.YtigpgcjbpoaclaaGreatDoorRows
import GoSem.ClaimSeven
namespace Go.Proofs.YtigpgcjbpoaclaaGreatDoor
namespace Rows

/-- THE TIED CARD OF 'pyxlaw13.RatchTells'. -/
def ratchTellsCard : Claim7 := { stood := { row := ratchTellsRow, standIns := [], harness := (true, "6bcbe86880d75d12d8566707c9013387efd495b706385aa3bad1588cd79b6ee6"), looks := false }, kinds := [], alts := [], laidByText := true, laidKinds := [.data, .data], laidTests := true, laidLooks := .later }
def RatchTellsCardSaid : Prop := Claim7.holds Tryz.pinned (.plain (OpenSpec.ofChange ratchTellsSpec)) ratchTellsCard

/-- THE TIED CARD OF 'pyxlaw13.RatchTakes'. -/
def ratchTakesCard : Claim7 := { stood := { row := ratchTakesRow, standIns := [], harness := (true, "6bcbe86880d75d12d8566707c9013387efd495b706385aa3bad1588cd79b6ee6"), looks := false }, kinds := [], alts := [], laidByText := true, laidKinds := [.data, .data], laidTests := true, laidLooks := .later }
def RatchTakesCardSaid : Prop := Claim7.holds Tryz.pinned (.plain (OpenSpec.ofChange ratchTakesSpec)) ratchTakesCard

/-- THE TIED CARD OF 'pyxlaw13.RatchOnce'. -/
def ratchOnceCard : Claim7 := { stood := { row := ratchOnceRow, standIns := [], harness := (true, "6bcbe86880d75d12d8566707c9013387efd495b706385aa3bad1588cd79b6ee6"), looks := false }, kinds := [], alts := [], laidByText := true, laidKinds := [.data, .data], laidTests := true, laidLooks := .later }
def RatchOnceCardSaid : Prop := Claim7.holds Tryz.pinned (.plain (OpenSpec.ofChange ratchOnceSpec)) ratchOnceCard

/-- THE SECOND FORM's CARD OF 'pyxlaw13.RatchTells'. -/
def ratchTellsUptoCard : Claim7 := { stood := { row := ratchTellsUptoRow, standIns := [], harness := (true, "6bcbe86880d75d12d8566707c9013387efd495b706385aa3bad1588cd79b6ee6"), looks := false }, kinds := [], alts := [], laidByText := true, laidKinds := [.data, .data], laidTests := true, laidLooks := .later }
def RatchTellsUptoCardSaid : Prop := Claim7.holds Tryz.pinned (.plain (OpenSpec.upto ratchTellsSpec)) ratchTellsUptoCard

/-- THE SECOND FORM's CARD OF 'pyxlaw13.RatchTakes'. -/
def ratchTakesUptoCard : Claim7 := { stood := { row := ratchTakesUptoRow, standIns := [], harness := (true, "6bcbe86880d75d12d8566707c9013387efd495b706385aa3bad1588cd79b6ee6"), looks := false }, kinds := [], alts := [], laidByText := true, laidKinds := [.data, .data], laidTests := true, laidLooks := .later }
def RatchTakesUptoCardSaid : Prop := Claim7.holds Tryz.pinned (.plain (OpenSpec.upto ratchTakesSpec)) ratchTakesUptoCard

/-- THE SECOND FORM's CARD OF 'pyxlaw13.RatchOnce'. -/
def ratchOnceUptoCard : Claim7 := { stood := { row := ratchOnceUptoRow, standIns := [], harness := (true, "6bcbe86880d75d12d8566707c9013387efd495b706385aa3bad1588cd79b6ee6"), looks := false }, kinds := [], alts := [], laidByText := true, laidKinds := [.data, .data], laidTests := true, laidLooks := .later }
def RatchOnceUptoCardSaid : Prop := Claim7.holds Tryz.pinned (.plain (OpenSpec.upto ratchOnceSpec)) ratchOnceUptoCard
end Rows
end Go.Proofs.YtigpgcjbpoaclaaGreatDoor
