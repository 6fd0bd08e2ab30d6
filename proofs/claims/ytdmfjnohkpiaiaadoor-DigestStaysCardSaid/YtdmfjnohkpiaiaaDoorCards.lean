/-
  DERIVED. GIVEN WITH THE SEED: THE CARDS: each row of YtdmfjnohkpiaiaaDoorRows.lean that lists a variable, with what it lists TIED to the program's text (the seventh form; the later family's looks); each row that meets fmt, with fmt's text TOLD by the authors' own Lean function (tested against real Go, not proved from fmt's source: count such statements apart). THE CARD IS WHAT COUNTS. Prove the row's statement (the work); the ties are given (YtdmfjnohkpiaiaaDoorTie.lean); close each card by the builder's one call (the guide's Derived/Test/ToyasCard.lean, 'card_holds'). Laid BY PROGRAM, IN A SANDBOX (cutbox-door.mjs). By AI agents, Wed Nov 11 2026. No macro, syntax, notation, axiom, sorry.
-/
import Derived.Test.YtdmfjnohkpiaiaaDoorRows
import GoSem.ClaimSeven
namespace Go.Proofs.YtdmfjnohkpiaiaaDoor
namespace Rows

/-- THE TIED CARD OF 'heartwoodlaw03.DigestOf'. -/
def digestOfCard : Claim7 := { stood := { row := digestOfRow, standIns := [], harness := (true, "ea587ad0c6fb0753c70c5f52c9a6e4f81ba2287b49c65bfb2d0ba26430592553"), looks := true }, kinds := [], alts := [], laidByText := true, laidKinds := [.data, .data], laidTests := true, laidLooks := .later }
def DigestOfCardSaid : Prop := Claim7.holds Tryd.pinned (.plain (OpenSpec.ofChange digestOfSpec)) digestOfCard

/-- THE TIED CARD OF 'heartwoodlaw03.DigestStays'. -/
def digestStaysCard : Claim7 := { stood := { row := digestStaysRow, standIns := [], harness := (true, "ea587ad0c6fb0753c70c5f52c9a6e4f81ba2287b49c65bfb2d0ba26430592553"), looks := true }, kinds := [], alts := [], laidByText := true, laidKinds := [.data, .data], laidTests := true, laidLooks := .later }
def DigestStaysCardSaid : Prop := Claim7.holds Tryd.pinned (.plain (OpenSpec.ofChange digestStaysSpec)) digestStaysCard

/-- THE SECOND FORM's CARD OF 'heartwoodlaw03.DigestOf'. -/
def digestOfUptoCard : Claim7 := { stood := { row := digestOfUptoRow, standIns := [], harness := (true, "ea587ad0c6fb0753c70c5f52c9a6e4f81ba2287b49c65bfb2d0ba26430592553"), looks := true }, kinds := [], alts := [], laidByText := true, laidKinds := [.data, .data], laidTests := true, laidLooks := .later }
def DigestOfUptoCardSaid : Prop := Claim7.holds Tryd.pinned (.plain (OpenSpec.upto digestOfSpec)) digestOfUptoCard

/-- THE SECOND FORM's CARD OF 'heartwoodlaw03.DigestStays'. -/
def digestStaysUptoCard : Claim7 := { stood := { row := digestStaysUptoRow, standIns := [], harness := (true, "ea587ad0c6fb0753c70c5f52c9a6e4f81ba2287b49c65bfb2d0ba26430592553"), looks := true }, kinds := [], alts := [], laidByText := true, laidKinds := [.data, .data], laidTests := true, laidLooks := .later }
def DigestStaysUptoCardSaid : Prop := Claim7.holds Tryd.pinned (.plain (OpenSpec.upto digestStaysSpec)) digestStaysUptoCard
end Rows
end Go.Proofs.YtdmfjnohkpiaiaaDoor
