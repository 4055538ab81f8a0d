/-
  DERIVED. GIVEN WITH THE SEED: THE CARDS: each row of YthmhklmkgkfcpaaGreatDoorRows.lean that lists a variable, with what it lists TIED to the program's text (the seventh form; the later family's looks); each row that meets fmt, with fmt's text TOLD by the authors' own Lean function (tested against real Go, not proved from fmt's source: count such statements apart). THE CARD IS WHAT COUNTS. Prove the row's statement (the work); the ties are given (YthmhklmkgkfcpaaGreatDoorTie.lean); close each card by the builder's one call (the guide's Derived/Test/ToyasCard.lean, 'card_holds'). Laid BY PROGRAM, IN A SANDBOX (cutbox-door.mjs). By AI agents, Wed Nov 11 2026. No macro, syntax, notation, axiom, sorry.
-/
import Derived.Test.YthmhklmkgkfcpaaGreatDoorRows
import GoSem.ClaimSeven
namespace Go.Proofs.YthmhklmkgkfcpaaGreatDoor
namespace Rows

/-- THE TIED CARD OF 'pyxlaw11.PathTells'. -/
def pathTellsCard : Claim7 := { stood := { row := pathTellsRow, standIns := [], harness := (true, "b8c5a2c07bb5a97289daef144c09f3267a5e36aa2cff6011f0a95a5f6c67101e"), looks := false }, kinds := [], alts := [], laidByText := true, laidKinds := [.data, .data], laidTests := true, laidLooks := .later }
def PathTellsCardSaid : Prop := Claim7.holds Tryz.pinned (.plain (OpenSpec.ofChange pathTellsSpec)) pathTellsCard

/-- THE TIED CARD OF 'pyxlaw11.PathMakes'. -/
def pathMakesCard : Claim7 := { stood := { row := pathMakesRow, standIns := [], harness := (true, "b8c5a2c07bb5a97289daef144c09f3267a5e36aa2cff6011f0a95a5f6c67101e"), looks := false }, kinds := [], alts := [], laidByText := true, laidKinds := [.data, .data], laidTests := true, laidLooks := .later }
def PathMakesCardSaid : Prop := Claim7.holds Tryz.pinned (.plain (OpenSpec.ofChange pathMakesSpec)) pathMakesCard

/-- THE TIED CARD OF 'pyxlaw11.PathTakes'. -/
def pathTakesCard : Claim7 := { stood := { row := pathTakesRow, standIns := [], harness := (true, "b8c5a2c07bb5a97289daef144c09f3267a5e36aa2cff6011f0a95a5f6c67101e"), looks := false }, kinds := [], alts := [], laidByText := true, laidKinds := [.data, .data], laidTests := true, laidLooks := .later }
def PathTakesCardSaid : Prop := Claim7.holds Tryz.pinned (.plain (OpenSpec.ofChange pathTakesSpec)) pathTakesCard

/-- THE TIED CARD OF 'pyxlaw11.PathBack'. -/
def pathBackCard : Claim7 := { stood := { row := pathBackRow, standIns := [], harness := (true, "b8c5a2c07bb5a97289daef144c09f3267a5e36aa2cff6011f0a95a5f6c67101e"), looks := false }, kinds := [], alts := [], laidByText := true, laidKinds := [.data, .data], laidTests := true, laidLooks := .later }
def PathBackCardSaid : Prop := Claim7.holds Tryz.pinned (.plain (OpenSpec.ofChange pathBackSpec)) pathBackCard

/-- THE TIED CARD OF 'pyxlaw11.PathSpoilt'. -/
def pathSpoiltCard : Claim7 := { stood := { row := pathSpoiltRow, standIns := [], harness := (true, "b8c5a2c07bb5a97289daef144c09f3267a5e36aa2cff6011f0a95a5f6c67101e"), looks := false }, kinds := [], alts := [], laidByText := true, laidKinds := [.data, .data], laidTests := true, laidLooks := .later }
def PathSpoiltCardSaid : Prop := Claim7.holds Tryz.pinned (.plain (OpenSpec.ofChange pathSpoiltSpec)) pathSpoiltCard

/-- THE TIED CARD OF 'pyxlaw11.PathSecrets'. -/
def pathSecretsCard : Claim7 := { stood := { row := pathSecretsRow, standIns := [], harness := (true, "b8c5a2c07bb5a97289daef144c09f3267a5e36aa2cff6011f0a95a5f6c67101e"), looks := false }, kinds := [], alts := [], laidByText := true, laidKinds := [.data, .data], laidTests := true, laidLooks := .later }
def PathSecretsCardSaid : Prop := Claim7.holds Tryz.pinned (.plain (OpenSpec.ofChange pathSecretsSpec)) pathSecretsCard

/-- THE SECOND FORM's CARD OF 'pyxlaw11.PathTells'. -/
def pathTellsUptoCard : Claim7 := { stood := { row := pathTellsUptoRow, standIns := [], harness := (true, "b8c5a2c07bb5a97289daef144c09f3267a5e36aa2cff6011f0a95a5f6c67101e"), looks := false }, kinds := [], alts := [], laidByText := true, laidKinds := [.data, .data], laidTests := true, laidLooks := .later }
def PathTellsUptoCardSaid : Prop := Claim7.holds Tryz.pinned (.plain (OpenSpec.upto pathTellsSpec)) pathTellsUptoCard

/-- THE SECOND FORM's CARD OF 'pyxlaw11.PathMakes'. -/
def pathMakesUptoCard : Claim7 := { stood := { row := pathMakesUptoRow, standIns := [], harness := (true, "b8c5a2c07bb5a97289daef144c09f3267a5e36aa2cff6011f0a95a5f6c67101e"), looks := false }, kinds := [], alts := [], laidByText := true, laidKinds := [.data, .data], laidTests := true, laidLooks := .later }
def PathMakesUptoCardSaid : Prop := Claim7.holds Tryz.pinned (.plain (OpenSpec.upto pathMakesSpec)) pathMakesUptoCard

/-- THE SECOND FORM's CARD OF 'pyxlaw11.PathTakes'. -/
def pathTakesUptoCard : Claim7 := { stood := { row := pathTakesUptoRow, standIns := [], harness := (true, "b8c5a2c07bb5a97289daef144c09f3267a5e36aa2cff6011f0a95a5f6c67101e"), looks := false }, kinds := [], alts := [], laidByText := true, laidKinds := [.data, .data], laidTests := true, laidLooks := .later }
def PathTakesUptoCardSaid : Prop := Claim7.holds Tryz.pinned (.plain (OpenSpec.upto pathTakesSpec)) pathTakesUptoCard

/-- THE SECOND FORM's CARD OF 'pyxlaw11.PathBack'. -/
def pathBackUptoCard : Claim7 := { stood := { row := pathBackUptoRow, standIns := [], harness := (true, "b8c5a2c07bb5a97289daef144c09f3267a5e36aa2cff6011f0a95a5f6c67101e"), looks := false }, kinds := [], alts := [], laidByText := true, laidKinds := [.data, .data], laidTests := true, laidLooks := .later }
def PathBackUptoCardSaid : Prop := Claim7.holds Tryz.pinned (.plain (OpenSpec.upto pathBackSpec)) pathBackUptoCard

/-- THE SECOND FORM's CARD OF 'pyxlaw11.PathSpoilt'. -/
def pathSpoiltUptoCard : Claim7 := { stood := { row := pathSpoiltUptoRow, standIns := [], harness := (true, "b8c5a2c07bb5a97289daef144c09f3267a5e36aa2cff6011f0a95a5f6c67101e"), looks := false }, kinds := [], alts := [], laidByText := true, laidKinds := [.data, .data], laidTests := true, laidLooks := .later }
def PathSpoiltUptoCardSaid : Prop := Claim7.holds Tryz.pinned (.plain (OpenSpec.upto pathSpoiltSpec)) pathSpoiltUptoCard

/-- THE SECOND FORM's CARD OF 'pyxlaw11.PathSecrets'. -/
def pathSecretsUptoCard : Claim7 := { stood := { row := pathSecretsUptoRow, standIns := [], harness := (true, "b8c5a2c07bb5a97289daef144c09f3267a5e36aa2cff6011f0a95a5f6c67101e"), looks := false }, kinds := [], alts := [], laidByText := true, laidKinds := [.data, .data], laidTests := true, laidLooks := .later }
def PathSecretsUptoCardSaid : Prop := Claim7.holds Tryz.pinned (.plain (OpenSpec.upto pathSecretsSpec)) pathSecretsUptoCard
end Rows
end Go.Proofs.YthmhklmkgkfcpaaGreatDoor
