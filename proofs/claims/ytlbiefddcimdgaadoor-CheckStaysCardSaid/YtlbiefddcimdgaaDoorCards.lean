/-
  DERIVED. GIVEN WITH THE SEED: THE CARDS: each row of YtlbiefddcimdgaaDoorRows.lean that lists a variable, with what it lists TIED to the program's text (the seventh form; the later family's looks); each row that meets fmt, with fmt's text TOLD by the authors' own Lean function (tested against real Go, not proved from fmt's source: count such statements apart). THE CARD IS WHAT COUNTS. Prove the row's statement (the work); the ties are given (YtlbiefddcimdgaaDoorTie.lean); close each card by the builder's one call (the guide's Derived/Test/ToyasCard.lean, 'card_holds'). Laid BY PROGRAM, IN A SANDBOX (cutbox-door.mjs). By AI agents, Wed Nov 11 2026. No macro, syntax, notation, axiom, sorry.
-/
import Derived.Test.YtlbiefddcimdgaaDoorRows
import GoSem.ClaimSeven
namespace Go.Proofs.YtlbiefddcimdgaaDoor
namespace Rows

/-- THE TIED CARD OF 'heartwoodlaw08.CheckTakes'. -/
def checkTakesCard : Claim7 := { stood := { row := checkTakesRow, standIns := [], harness := (true, "bd47d8cba61d0d5f41605ebedcb190354dd0eabc2a402d4ce673293e65220db0"), looks := true }, kinds := [], alts := [], laidByText := true, laidKinds := [.data, .data], laidTests := true, laidLooks := .later }
def CheckTakesCardSaid : Prop := Claim7.holds Tryd.pinned (.plain (OpenSpec.ofChange checkTakesSpec)) checkTakesCard

/-- THE TIED CARD OF 'heartwoodlaw08.CheckOwn'. -/
def checkOwnCard : Claim7 := { stood := { row := checkOwnRow, standIns := [], harness := (true, "bd47d8cba61d0d5f41605ebedcb190354dd0eabc2a402d4ce673293e65220db0"), looks := true }, kinds := [], alts := [], laidByText := true, laidKinds := [.data, .data], laidTests := true, laidLooks := .later }
def CheckOwnCardSaid : Prop := Claim7.holds Tryd.pinned (.plain (OpenSpec.ofChange checkOwnSpec)) checkOwnCard

/-- THE TIED CARD OF 'heartwoodlaw08.CheckBytes'. -/
def checkBytesCard : Claim7 := { stood := { row := checkBytesRow, standIns := [], harness := (true, "bd47d8cba61d0d5f41605ebedcb190354dd0eabc2a402d4ce673293e65220db0"), looks := true }, kinds := [], alts := [], laidByText := true, laidKinds := [.data, .data], laidTests := true, laidLooks := .later }
def CheckBytesCardSaid : Prop := Claim7.holds Tryd.pinned (.plain (OpenSpec.ofChange checkBytesSpec)) checkBytesCard

/-- THE TIED CARD OF 'heartwoodlaw08.CheckHonest'. -/
def checkHonestCard : Claim7 := { stood := { row := checkHonestRow, standIns := [], harness := (true, "bd47d8cba61d0d5f41605ebedcb190354dd0eabc2a402d4ce673293e65220db0"), looks := true }, kinds := [], alts := [], laidByText := true, laidKinds := [.data, .data], laidTests := true, laidLooks := .later }
def CheckHonestCardSaid : Prop := Claim7.holds Tryd.pinned (.plain (OpenSpec.ofChange checkHonestSpec)) checkHonestCard

/-- THE TIED CARD OF 'heartwoodlaw08.CheckLess'. -/
def checkLessCard : Claim7 := { stood := { row := checkLessRow, standIns := [], harness := (true, "bd47d8cba61d0d5f41605ebedcb190354dd0eabc2a402d4ce673293e65220db0"), looks := true }, kinds := [], alts := [], laidByText := true, laidKinds := [.data, .data], laidTests := true, laidLooks := .later }
def CheckLessCardSaid : Prop := Claim7.holds Tryd.pinned (.plain (OpenSpec.ofChange checkLessSpec)) checkLessCard

/-- THE TIED CARD OF 'heartwoodlaw08.CheckStays'. -/
def checkStaysCard : Claim7 := { stood := { row := checkStaysRow, standIns := [], harness := (true, "bd47d8cba61d0d5f41605ebedcb190354dd0eabc2a402d4ce673293e65220db0"), looks := true }, kinds := [], alts := [], laidByText := true, laidKinds := [.data, .data], laidTests := true, laidLooks := .later }
def CheckStaysCardSaid : Prop := Claim7.holds Tryd.pinned (.plain (OpenSpec.ofChange checkStaysSpec)) checkStaysCard

/-- THE SECOND FORM's CARD OF 'heartwoodlaw08.CheckTakes'. -/
def checkTakesUptoCard : Claim7 := { stood := { row := checkTakesUptoRow, standIns := [], harness := (true, "bd47d8cba61d0d5f41605ebedcb190354dd0eabc2a402d4ce673293e65220db0"), looks := true }, kinds := [], alts := [], laidByText := true, laidKinds := [.data, .data], laidTests := true, laidLooks := .later }
def CheckTakesUptoCardSaid : Prop := Claim7.holds Tryd.pinned (.plain (OpenSpec.upto checkTakesSpec)) checkTakesUptoCard

/-- THE SECOND FORM's CARD OF 'heartwoodlaw08.CheckOwn'. -/
def checkOwnUptoCard : Claim7 := { stood := { row := checkOwnUptoRow, standIns := [], harness := (true, "bd47d8cba61d0d5f41605ebedcb190354dd0eabc2a402d4ce673293e65220db0"), looks := true }, kinds := [], alts := [], laidByText := true, laidKinds := [.data, .data], laidTests := true, laidLooks := .later }
def CheckOwnUptoCardSaid : Prop := Claim7.holds Tryd.pinned (.plain (OpenSpec.upto checkOwnSpec)) checkOwnUptoCard

/-- THE SECOND FORM's CARD OF 'heartwoodlaw08.CheckBytes'. -/
def checkBytesUptoCard : Claim7 := { stood := { row := checkBytesUptoRow, standIns := [], harness := (true, "bd47d8cba61d0d5f41605ebedcb190354dd0eabc2a402d4ce673293e65220db0"), looks := true }, kinds := [], alts := [], laidByText := true, laidKinds := [.data, .data], laidTests := true, laidLooks := .later }
def CheckBytesUptoCardSaid : Prop := Claim7.holds Tryd.pinned (.plain (OpenSpec.upto checkBytesSpec)) checkBytesUptoCard

/-- THE SECOND FORM's CARD OF 'heartwoodlaw08.CheckHonest'. -/
def checkHonestUptoCard : Claim7 := { stood := { row := checkHonestUptoRow, standIns := [], harness := (true, "bd47d8cba61d0d5f41605ebedcb190354dd0eabc2a402d4ce673293e65220db0"), looks := true }, kinds := [], alts := [], laidByText := true, laidKinds := [.data, .data], laidTests := true, laidLooks := .later }
def CheckHonestUptoCardSaid : Prop := Claim7.holds Tryd.pinned (.plain (OpenSpec.upto checkHonestSpec)) checkHonestUptoCard

/-- THE SECOND FORM's CARD OF 'heartwoodlaw08.CheckLess'. -/
def checkLessUptoCard : Claim7 := { stood := { row := checkLessUptoRow, standIns := [], harness := (true, "bd47d8cba61d0d5f41605ebedcb190354dd0eabc2a402d4ce673293e65220db0"), looks := true }, kinds := [], alts := [], laidByText := true, laidKinds := [.data, .data], laidTests := true, laidLooks := .later }
def CheckLessUptoCardSaid : Prop := Claim7.holds Tryd.pinned (.plain (OpenSpec.upto checkLessSpec)) checkLessUptoCard

/-- THE SECOND FORM's CARD OF 'heartwoodlaw08.CheckStays'. -/
def checkStaysUptoCard : Claim7 := { stood := { row := checkStaysUptoRow, standIns := [], harness := (true, "bd47d8cba61d0d5f41605ebedcb190354dd0eabc2a402d4ce673293e65220db0"), looks := true }, kinds := [], alts := [], laidByText := true, laidKinds := [.data, .data], laidTests := true, laidLooks := .later }
def CheckStaysUptoCardSaid : Prop := Claim7.holds Tryd.pinned (.plain (OpenSpec.upto checkStaysSpec)) checkStaysUptoCard
end Rows
end Go.Proofs.YtlbiefddcimdgaaDoor
