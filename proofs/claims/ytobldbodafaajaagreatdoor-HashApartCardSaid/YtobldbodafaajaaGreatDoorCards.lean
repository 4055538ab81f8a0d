/-
  DERIVED. GIVEN WITH THE SEED: THE CARDS: each row of YtobldbodafaajaaGreatDoorRows.lean that lists a variable, with what it lists TIED to the program's text (the seventh form; the later family's looks); each row that meets fmt, with fmt's text TOLD by the authors' own Lean function (tested against real Go, not proved from fmt's source: count such statements apart). THE CARD IS WHAT COUNTS. Prove the row's statement (the work); the ties are given (YtobldbodafaajaaGreatDoorTie.lean); close each card by the builder's one call (the guide's Derived/Test/ToyasCard.lean, 'card_holds'). Laid BY PROGRAM, IN A SANDBOX (cutbox-door.mjs). By AI agents, Wed Nov 11 2026. No macro, syntax, notation, axiom, sorry.
-/
import Derived.Test.YtobldbodafaajaaGreatDoorRows
import GoSem.ClaimSeven
namespace Go.Proofs.YtobldbodafaajaaGreatDoor
namespace Rows

/-- THE TIED CARD OF 'pyxlaw10.HashTells'. -/
def hashTellsCard : Claim7 := { stood := { row := hashTellsRow, standIns := [], harness := (true, "b6a6d08a2788f14d3550d0d0069cd57bc1e6a863459c94550111db035b34e757"), looks := false }, kinds := [], alts := [], laidByText := true, laidKinds := [.data, .data], laidTests := true, laidLooks := .later }
def HashTellsCardSaid : Prop := Claim7.holds Tryz.pinned (.plain (OpenSpec.ofChange hashTellsSpec)) hashTellsCard

/-- THE TIED CARD OF 'pyxlaw10.HashLays'. -/
def hashLaysCard : Claim7 := { stood := { row := hashLaysRow, standIns := [], harness := (true, "b6a6d08a2788f14d3550d0d0069cd57bc1e6a863459c94550111db035b34e757"), looks := false }, kinds := [], alts := [], laidByText := true, laidKinds := [.data, .data], laidTests := true, laidLooks := .later }
def HashLaysCardSaid : Prop := Claim7.holds Tryz.pinned (.plain (OpenSpec.ofChange hashLaysSpec)) hashLaysCard

/-- THE TIED CARD OF 'pyxlaw10.HashApart'. -/
def hashApartCard : Claim7 := { stood := { row := hashApartRow, standIns := [], harness := (true, "b6a6d08a2788f14d3550d0d0069cd57bc1e6a863459c94550111db035b34e757"), looks := false }, kinds := [], alts := [], laidByText := true, laidKinds := [.data, .data], laidTests := true, laidLooks := .later }
def HashApartCardSaid : Prop := Claim7.holds Tryz.pinned (.plain (OpenSpec.ofChange hashApartSpec)) hashApartCard

/-- THE SECOND FORM's CARD OF 'pyxlaw10.HashTells'. -/
def hashTellsUptoCard : Claim7 := { stood := { row := hashTellsUptoRow, standIns := [], harness := (true, "b6a6d08a2788f14d3550d0d0069cd57bc1e6a863459c94550111db035b34e757"), looks := false }, kinds := [], alts := [], laidByText := true, laidKinds := [.data, .data], laidTests := true, laidLooks := .later }
def HashTellsUptoCardSaid : Prop := Claim7.holds Tryz.pinned (.plain (OpenSpec.upto hashTellsSpec)) hashTellsUptoCard

/-- THE SECOND FORM's CARD OF 'pyxlaw10.HashLays'. -/
def hashLaysUptoCard : Claim7 := { stood := { row := hashLaysUptoRow, standIns := [], harness := (true, "b6a6d08a2788f14d3550d0d0069cd57bc1e6a863459c94550111db035b34e757"), looks := false }, kinds := [], alts := [], laidByText := true, laidKinds := [.data, .data], laidTests := true, laidLooks := .later }
def HashLaysUptoCardSaid : Prop := Claim7.holds Tryz.pinned (.plain (OpenSpec.upto hashLaysSpec)) hashLaysUptoCard

/-- THE SECOND FORM's CARD OF 'pyxlaw10.HashApart'. -/
def hashApartUptoCard : Claim7 := { stood := { row := hashApartUptoRow, standIns := [], harness := (true, "b6a6d08a2788f14d3550d0d0069cd57bc1e6a863459c94550111db035b34e757"), looks := false }, kinds := [], alts := [], laidByText := true, laidKinds := [.data, .data], laidTests := true, laidLooks := .later }
def HashApartUptoCardSaid : Prop := Claim7.holds Tryz.pinned (.plain (OpenSpec.upto hashApartSpec)) hashApartUptoCard
end Rows
end Go.Proofs.YtobldbodafaajaaGreatDoor
