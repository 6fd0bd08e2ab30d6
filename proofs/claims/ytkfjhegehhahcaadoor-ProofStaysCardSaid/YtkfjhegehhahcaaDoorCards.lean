/-
  DERIVED. GIVEN WITH THE SEED: THE CARDS: each row of YtkfjhegehhahcaaDoorRows.lean that lists a variable, with what it lists TIED to the program's text (the seventh form; the later family's looks); each row that meets fmt, with fmt's text TOLD by the authors' own Lean function (tested against real Go, not proved from fmt's source: count such statements apart). THE CARD IS WHAT COUNTS. Prove the row's statement (the work); the ties are given (YtkfjhegehhahcaaDoorTie.lean); close each card by the builder's one call (the guide's Derived/Test/ToyasCard.lean, 'card_holds'). Laid BY PROGRAM, IN A SANDBOX (cutbox-door.mjs). By AI agents, Wed Nov 11 2026. No macro, syntax, notation, axiom, sorry.
-/
import Derived.Test.YtkfjhegehhahcaaDoorRows
import GoSem.ClaimSeven
namespace Go.Proofs.YtkfjhegehhahcaaDoor
namespace Rows

/-- THE TIED CARD OF 'heartwoodlaw07.ProofShows'. -/
def proofShowsCard : Claim7 := { stood := { row := proofShowsRow, standIns := [], harness := (true, "dc0222087a3ea19c65ff826b500ad9abedea0e76dbba94716f12465cc1bb956f"), looks := true }, kinds := [], alts := [], laidByText := true, laidKinds := [.data, .data], laidTests := true, laidLooks := .later }
def ProofShowsCardSaid : Prop := Claim7.holds Tryd.pinned (.plain (OpenSpec.ofChange proofShowsSpec)) proofShowsCard

/-- THE TIED CARD OF 'heartwoodlaw07.ProofRoots'. -/
def proofRootsCard : Claim7 := { stood := { row := proofRootsRow, standIns := [], harness := (true, "dc0222087a3ea19c65ff826b500ad9abedea0e76dbba94716f12465cc1bb956f"), looks := true }, kinds := [], alts := [], laidByText := true, laidKinds := [.data, .data], laidTests := true, laidLooks := .later }
def ProofRootsCardSaid : Prop := Claim7.holds Tryd.pinned (.plain (OpenSpec.ofChange proofRootsSpec)) proofRootsCard

/-- THE TIED CARD OF 'heartwoodlaw07.ProofStays'. -/
def proofStaysCard : Claim7 := { stood := { row := proofStaysRow, standIns := [], harness := (true, "dc0222087a3ea19c65ff826b500ad9abedea0e76dbba94716f12465cc1bb956f"), looks := true }, kinds := [], alts := [], laidByText := true, laidKinds := [.data, .data], laidTests := true, laidLooks := .later }
def ProofStaysCardSaid : Prop := Claim7.holds Tryd.pinned (.plain (OpenSpec.ofChange proofStaysSpec)) proofStaysCard

/-- THE SECOND FORM's CARD OF 'heartwoodlaw07.ProofShows'. -/
def proofShowsUptoCard : Claim7 := { stood := { row := proofShowsUptoRow, standIns := [], harness := (true, "dc0222087a3ea19c65ff826b500ad9abedea0e76dbba94716f12465cc1bb956f"), looks := true }, kinds := [], alts := [], laidByText := true, laidKinds := [.data, .data], laidTests := true, laidLooks := .later }
def ProofShowsUptoCardSaid : Prop := Claim7.holds Tryd.pinned (.plain (OpenSpec.upto proofShowsSpec)) proofShowsUptoCard

/-- THE SECOND FORM's CARD OF 'heartwoodlaw07.ProofRoots'. -/
def proofRootsUptoCard : Claim7 := { stood := { row := proofRootsUptoRow, standIns := [], harness := (true, "dc0222087a3ea19c65ff826b500ad9abedea0e76dbba94716f12465cc1bb956f"), looks := true }, kinds := [], alts := [], laidByText := true, laidKinds := [.data, .data], laidTests := true, laidLooks := .later }
def ProofRootsUptoCardSaid : Prop := Claim7.holds Tryd.pinned (.plain (OpenSpec.upto proofRootsSpec)) proofRootsUptoCard

/-- THE SECOND FORM's CARD OF 'heartwoodlaw07.ProofStays'. -/
def proofStaysUptoCard : Claim7 := { stood := { row := proofStaysUptoRow, standIns := [], harness := (true, "dc0222087a3ea19c65ff826b500ad9abedea0e76dbba94716f12465cc1bb956f"), looks := true }, kinds := [], alts := [], laidByText := true, laidKinds := [.data, .data], laidTests := true, laidLooks := .later }
def ProofStaysUptoCardSaid : Prop := Claim7.holds Tryd.pinned (.plain (OpenSpec.upto proofStaysSpec)) proofStaysUptoCard
end Rows
end Go.Proofs.YtkfjhegehhahcaaDoor
