/-
  DERIVED. GIVEN WITH THE SEED: THE CARDS: each row of YtigpgcjbpoaclaaDoorRows.lean that lists a variable, with what it lists TIED to the program's text (the seventh form; the later family's looks); each row that meets fmt, with fmt's text TOLD by the authors' own Lean function (tested against real Go, not proved from fmt's source: count such statements apart). THE CARD IS WHAT COUNTS. Prove the row's statement (the work); the ties are given (YtigpgcjbpoaclaaDoorTie.lean); close each card by the builder's one call (the guide's Derived/Test/ToyasCard.lean, 'card_holds'). Laid BY PROGRAM, IN A SANDBOX (cutbox-door.mjs). By AI agents, Wed Nov 11 2026. No macro, syntax, notation, axiom, sorry.
-/
import Derived.Test.YtigpgcjbpoaclaaDoorRows
import GoSem.ClaimSeven
namespace Go.Proofs.YtigpgcjbpoaclaaDoor
namespace Rows

/-- THE TIED CARD OF 'pyxlaw13.RatchTree'. -/
def ratchTreeCard : Claim7 := { stood := { row := ratchTreeRow, standIns := [], harness := (true, "ba79590c690c24bd89e6e7015e50d1e8d515b33627d41811f24e7ba00e0199fc"), looks := false }, kinds := [], alts := [], laidByText := true, laidKinds := [.data, .data], laidTests := true, laidLooks := .later }
def RatchTreeCardSaid : Prop := Claim7.holds Tryd.pinned (.plain (OpenSpec.ofChange ratchTreeSpec)) ratchTreeCard

/-- THE TIED CARD OF 'pyxlaw13.RatchSpares'. -/
def ratchSparesCard : Claim7 := { stood := { row := ratchSparesRow, standIns := [], harness := (true, "ba79590c690c24bd89e6e7015e50d1e8d515b33627d41811f24e7ba00e0199fc"), looks := false }, kinds := [], alts := [], laidByText := true, laidKinds := [.data, .data], laidTests := true, laidLooks := .later }
def RatchSparesCardSaid : Prop := Claim7.holds Tryd.pinned (.plain (OpenSpec.ofChange ratchSparesSpec)) ratchSparesCard

/-- THE TIED CARD OF 'pyxlaw13.RatchSecrets'. -/
def ratchSecretsCard : Claim7 := { stood := { row := ratchSecretsRow, standIns := [], harness := (true, "ba79590c690c24bd89e6e7015e50d1e8d515b33627d41811f24e7ba00e0199fc"), looks := false }, kinds := [], alts := [], laidByText := true, laidKinds := [.data, .data], laidTests := true, laidLooks := .later }
def RatchSecretsCardSaid : Prop := Claim7.holds Tryd.pinned (.plain (OpenSpec.ofChange ratchSecretsSpec)) ratchSecretsCard

/-- THE TIED CARD OF 'pyxlaw13.RatchEnds'. -/
def ratchEndsCard : Claim7 := { stood := { row := ratchEndsRow, standIns := [], harness := (true, "ba79590c690c24bd89e6e7015e50d1e8d515b33627d41811f24e7ba00e0199fc"), looks := false }, kinds := [], alts := [], laidByText := true, laidKinds := [.data, .data], laidTests := true, laidLooks := .later }
def RatchEndsCardSaid : Prop := Claim7.holds Tryd.pinned (.plain (OpenSpec.ofChange ratchEndsSpec)) ratchEndsCard

/-- THE SECOND FORM's CARD OF 'pyxlaw13.RatchTree'. -/
def ratchTreeUptoCard : Claim7 := { stood := { row := ratchTreeUptoRow, standIns := [], harness := (true, "ba79590c690c24bd89e6e7015e50d1e8d515b33627d41811f24e7ba00e0199fc"), looks := false }, kinds := [], alts := [], laidByText := true, laidKinds := [.data, .data], laidTests := true, laidLooks := .later }
def RatchTreeUptoCardSaid : Prop := Claim7.holds Tryd.pinned (.plain (OpenSpec.upto ratchTreeSpec)) ratchTreeUptoCard

/-- THE SECOND FORM's CARD OF 'pyxlaw13.RatchSpares'. -/
def ratchSparesUptoCard : Claim7 := { stood := { row := ratchSparesUptoRow, standIns := [], harness := (true, "ba79590c690c24bd89e6e7015e50d1e8d515b33627d41811f24e7ba00e0199fc"), looks := false }, kinds := [], alts := [], laidByText := true, laidKinds := [.data, .data], laidTests := true, laidLooks := .later }
def RatchSparesUptoCardSaid : Prop := Claim7.holds Tryd.pinned (.plain (OpenSpec.upto ratchSparesSpec)) ratchSparesUptoCard

/-- THE SECOND FORM's CARD OF 'pyxlaw13.RatchSecrets'. -/
def ratchSecretsUptoCard : Claim7 := { stood := { row := ratchSecretsUptoRow, standIns := [], harness := (true, "ba79590c690c24bd89e6e7015e50d1e8d515b33627d41811f24e7ba00e0199fc"), looks := false }, kinds := [], alts := [], laidByText := true, laidKinds := [.data, .data], laidTests := true, laidLooks := .later }
def RatchSecretsUptoCardSaid : Prop := Claim7.holds Tryd.pinned (.plain (OpenSpec.upto ratchSecretsSpec)) ratchSecretsUptoCard

/-- THE SECOND FORM's CARD OF 'pyxlaw13.RatchEnds'. -/
def ratchEndsUptoCard : Claim7 := { stood := { row := ratchEndsUptoRow, standIns := [], harness := (true, "ba79590c690c24bd89e6e7015e50d1e8d515b33627d41811f24e7ba00e0199fc"), looks := false }, kinds := [], alts := [], laidByText := true, laidKinds := [.data, .data], laidTests := true, laidLooks := .later }
def RatchEndsUptoCardSaid : Prop := Claim7.holds Tryd.pinned (.plain (OpenSpec.upto ratchEndsSpec)) ratchEndsUptoCard
end Rows
end Go.Proofs.YtigpgcjbpoaclaaDoor
