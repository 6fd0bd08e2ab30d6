/-
  DERIVED. GIVEN WITH THE SEED: THE CARDS: each row of YtioifkbkllnkgaaDoorRows.lean that lists a variable, with what it lists TIED to the program's text (the seventh form; the later family's looks); each row that meets fmt, with fmt's text TOLD by the authors' own Lean function (tested against real Go, not proved from fmt's source: count such statements apart). THE CARD IS WHAT COUNTS. Prove the row's statement (the work); the ties are given (YtioifkbkllnkgaaDoorTie.lean); close each card by the builder's one call (the guide's Derived/Test/ToyasCard.lean, 'card_holds'). Laid BY PROGRAM, IN A SANDBOX (cutbox-door.mjs). By AI agents, Wed Nov 11 2026. No macro, syntax, notation, axiom, sorry.
-/
import Derived.Test.YtioifkbkllnkgaaDoorRows
import GoSem.ClaimSeven
namespace Go.Proofs.YtioifkbkllnkgaaDoor
namespace Rows

/-- THE TIED CARD OF 'heartwoodlaw09.ClashFinds'. -/
def clashFindsCard : Claim7 := { stood := { row := clashFindsRow, standIns := [], harness := (true, "aa0ad84c9bbc3841e71cb6a87fc99052420f68217af6b50722b5d922de2fe879"), looks := true }, kinds := [], alts := [], laidByText := true, laidKinds := [.data, .data], laidTests := true, laidLooks := .later }
def ClashFindsCardSaid : Prop := Claim7.holds Tryd.pinned (.plain (OpenSpec.ofChange clashFindsSpec)) clashFindsCard

/-- THE TIED CARD OF 'heartwoodlaw09.ClashRight'. -/
def clashRightCard : Claim7 := { stood := { row := clashRightRow, standIns := [], harness := (true, "aa0ad84c9bbc3841e71cb6a87fc99052420f68217af6b50722b5d922de2fe879"), looks := true }, kinds := [], alts := [], laidByText := true, laidKinds := [.data, .data], laidTests := true, laidLooks := .later }
def ClashRightCardSaid : Prop := Claim7.holds Tryd.pinned (.plain (OpenSpec.ofChange clashRightSpec)) clashRightCard

/-- THE TIED CARD OF 'heartwoodlaw09.ClashProves'. -/
def clashProvesCard : Claim7 := { stood := { row := clashProvesRow, standIns := [], harness := (true, "aa0ad84c9bbc3841e71cb6a87fc99052420f68217af6b50722b5d922de2fe879"), looks := true }, kinds := [], alts := [], laidByText := true, laidKinds := [.data, .data], laidTests := true, laidLooks := .later }
def ClashProvesCardSaid : Prop := Claim7.holds Tryd.pinned (.plain (OpenSpec.ofChange clashProvesSpec)) clashProvesCard

/-- THE TIED CARD OF 'heartwoodlaw09.ClashSame'. -/
def clashSameCard : Claim7 := { stood := { row := clashSameRow, standIns := [], harness := (true, "aa0ad84c9bbc3841e71cb6a87fc99052420f68217af6b50722b5d922de2fe879"), looks := true }, kinds := [], alts := [], laidByText := true, laidKinds := [.data, .data], laidTests := true, laidLooks := .later }
def ClashSameCardSaid : Prop := Claim7.holds Tryd.pinned (.plain (OpenSpec.ofChange clashSameSpec)) clashSameCard

/-- THE TIED CARD OF 'heartwoodlaw09.ClashStays'. -/
def clashStaysCard : Claim7 := { stood := { row := clashStaysRow, standIns := [], harness := (true, "aa0ad84c9bbc3841e71cb6a87fc99052420f68217af6b50722b5d922de2fe879"), looks := true }, kinds := [], alts := [], laidByText := true, laidKinds := [.data, .data], laidTests := true, laidLooks := .later }
def ClashStaysCardSaid : Prop := Claim7.holds Tryd.pinned (.plain (OpenSpec.ofChange clashStaysSpec)) clashStaysCard

/-- THE SECOND FORM's CARD OF 'heartwoodlaw09.ClashFinds'. -/
def clashFindsUptoCard : Claim7 := { stood := { row := clashFindsUptoRow, standIns := [], harness := (true, "aa0ad84c9bbc3841e71cb6a87fc99052420f68217af6b50722b5d922de2fe879"), looks := true }, kinds := [], alts := [], laidByText := true, laidKinds := [.data, .data], laidTests := true, laidLooks := .later }
def ClashFindsUptoCardSaid : Prop := Claim7.holds Tryd.pinned (.plain (OpenSpec.upto clashFindsSpec)) clashFindsUptoCard

/-- THE SECOND FORM's CARD OF 'heartwoodlaw09.ClashRight'. -/
def clashRightUptoCard : Claim7 := { stood := { row := clashRightUptoRow, standIns := [], harness := (true, "aa0ad84c9bbc3841e71cb6a87fc99052420f68217af6b50722b5d922de2fe879"), looks := true }, kinds := [], alts := [], laidByText := true, laidKinds := [.data, .data], laidTests := true, laidLooks := .later }
def ClashRightUptoCardSaid : Prop := Claim7.holds Tryd.pinned (.plain (OpenSpec.upto clashRightSpec)) clashRightUptoCard

/-- THE SECOND FORM's CARD OF 'heartwoodlaw09.ClashProves'. -/
def clashProvesUptoCard : Claim7 := { stood := { row := clashProvesUptoRow, standIns := [], harness := (true, "aa0ad84c9bbc3841e71cb6a87fc99052420f68217af6b50722b5d922de2fe879"), looks := true }, kinds := [], alts := [], laidByText := true, laidKinds := [.data, .data], laidTests := true, laidLooks := .later }
def ClashProvesUptoCardSaid : Prop := Claim7.holds Tryd.pinned (.plain (OpenSpec.upto clashProvesSpec)) clashProvesUptoCard

/-- THE SECOND FORM's CARD OF 'heartwoodlaw09.ClashSame'. -/
def clashSameUptoCard : Claim7 := { stood := { row := clashSameUptoRow, standIns := [], harness := (true, "aa0ad84c9bbc3841e71cb6a87fc99052420f68217af6b50722b5d922de2fe879"), looks := true }, kinds := [], alts := [], laidByText := true, laidKinds := [.data, .data], laidTests := true, laidLooks := .later }
def ClashSameUptoCardSaid : Prop := Claim7.holds Tryd.pinned (.plain (OpenSpec.upto clashSameSpec)) clashSameUptoCard

/-- THE SECOND FORM's CARD OF 'heartwoodlaw09.ClashStays'. -/
def clashStaysUptoCard : Claim7 := { stood := { row := clashStaysUptoRow, standIns := [], harness := (true, "aa0ad84c9bbc3841e71cb6a87fc99052420f68217af6b50722b5d922de2fe879"), looks := true }, kinds := [], alts := [], laidByText := true, laidKinds := [.data, .data], laidTests := true, laidLooks := .later }
def ClashStaysUptoCardSaid : Prop := Claim7.holds Tryd.pinned (.plain (OpenSpec.upto clashStaysSpec)) clashStaysUptoCard
end Rows
end Go.Proofs.YtioifkbkllnkgaaDoor
