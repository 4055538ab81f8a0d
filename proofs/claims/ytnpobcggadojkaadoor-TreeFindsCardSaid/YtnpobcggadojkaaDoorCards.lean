/-
  DERIVED. GIVEN WITH THE SEED: THE CARDS: each row of YtnpobcggadojkaaDoorRows.lean that lists a variable, with what it lists TIED to the program's text (the seventh form; the later family's looks); each row that meets fmt, with fmt's text TOLD by the authors' own Lean function (tested against real Go, not proved from fmt's source: count such statements apart). THE CARD IS WHAT COUNTS. Prove the row's statement (the work); the ties are given (YtnpobcggadojkaaDoorTie.lean); close each card by the builder's one call (the guide's Derived/Test/ToyasCard.lean, 'card_holds'). Laid BY PROGRAM, IN A SANDBOX (cutbox-door.mjs). By AI agents, Wed Nov 11 2026. No macro, syntax, notation, axiom, sorry.
-/
import Derived.Test.YtnpobcggadojkaaDoorRows
import GoSem.ClaimSeven
namespace Go.Proofs.YtnpobcggadojkaaDoor
namespace Rows

/-- THE TIED CARD OF 'pyxlaw09.TreeCovers'. -/
def treeCoversCard : Claim7 := { stood := { row := treeCoversRow, standIns := [], harness := (true, "a580b614b2bf9c151f085435a8c93f3446cb58038911bdbf72ca9a3fb3ec21ae"), looks := false }, kinds := [], alts := [], laidByText := true, laidKinds := [.data, .data], laidTests := true, laidLooks := .later }
def TreeCoversCardSaid : Prop := Claim7.holds Tryd.pinned (.plain (OpenSpec.ofChange treeCoversSpec)) treeCoversCard

/-- THE TIED CARD OF 'pyxlaw09.TreeFinds'. -/
def treeFindsCard : Claim7 := { stood := { row := treeFindsRow, standIns := [], harness := (true, "a580b614b2bf9c151f085435a8c93f3446cb58038911bdbf72ca9a3fb3ec21ae"), looks := false }, kinds := [], alts := [], laidByText := true, laidKinds := [.data, .data], laidTests := true, laidLooks := .later }
def TreeFindsCardSaid : Prop := Claim7.holds Tryd.pinned (.plain (OpenSpec.ofChange treeFindsSpec)) treeFindsCard

/-- THE TIED CARD OF 'pyxlaw09.TreeWide'. -/
def treeWideCard : Claim7 := { stood := { row := treeWideRow, standIns := [], harness := (true, "a580b614b2bf9c151f085435a8c93f3446cb58038911bdbf72ca9a3fb3ec21ae"), looks := false }, kinds := [], alts := [], laidByText := true, laidKinds := [.data, .data], laidTests := true, laidLooks := .later }
def TreeWideCardSaid : Prop := Claim7.holds Tryd.pinned (.plain (OpenSpec.ofChange treeWideSpec)) treeWideCard

/-- THE SECOND FORM's CARD OF 'pyxlaw09.TreeCovers'. -/
def treeCoversUptoCard : Claim7 := { stood := { row := treeCoversUptoRow, standIns := [], harness := (true, "a580b614b2bf9c151f085435a8c93f3446cb58038911bdbf72ca9a3fb3ec21ae"), looks := false }, kinds := [], alts := [], laidByText := true, laidKinds := [.data, .data], laidTests := true, laidLooks := .later }
def TreeCoversUptoCardSaid : Prop := Claim7.holds Tryd.pinned (.plain (OpenSpec.upto treeCoversSpec)) treeCoversUptoCard

/-- THE SECOND FORM's CARD OF 'pyxlaw09.TreeFinds'. -/
def treeFindsUptoCard : Claim7 := { stood := { row := treeFindsUptoRow, standIns := [], harness := (true, "a580b614b2bf9c151f085435a8c93f3446cb58038911bdbf72ca9a3fb3ec21ae"), looks := false }, kinds := [], alts := [], laidByText := true, laidKinds := [.data, .data], laidTests := true, laidLooks := .later }
def TreeFindsUptoCardSaid : Prop := Claim7.holds Tryd.pinned (.plain (OpenSpec.upto treeFindsSpec)) treeFindsUptoCard

/-- THE SECOND FORM's CARD OF 'pyxlaw09.TreeWide'. -/
def treeWideUptoCard : Claim7 := { stood := { row := treeWideUptoRow, standIns := [], harness := (true, "a580b614b2bf9c151f085435a8c93f3446cb58038911bdbf72ca9a3fb3ec21ae"), looks := false }, kinds := [], alts := [], laidByText := true, laidKinds := [.data, .data], laidTests := true, laidLooks := .later }
def TreeWideUptoCardSaid : Prop := Claim7.holds Tryd.pinned (.plain (OpenSpec.upto treeWideSpec)) treeWideUptoCard
end Rows
end Go.Proofs.YtnpobcggadojkaaDoor
