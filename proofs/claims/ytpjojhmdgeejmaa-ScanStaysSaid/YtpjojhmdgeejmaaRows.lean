/-
  NARROWER THAN 'FOR EVERY INPUT', by the rows' own cells (each row's printed sentence says how): ScanRanges: loops.
  DERIVED. THE GIVEN ROWS OF THIS SEAT. 6 by the template 'for every input the law returns true; each argument reads behind the call as it read before'; 0 by the template 'total and deterministic' (their statements: YtpjojhmdgeejmaaTotals.lean).
  GIVEN WITH THE SEED: the statements are not yours to turn. If you find one false, say at which input.
  Laid BY PROGRAM, IN A SANDBOX (cutbox-rows.mjs): the forced cells as the released guide's own fill.sh prints them over the translation 38e85e37a07ac896… (all of the seat's roots in one cut). By AI agents, Wed Nov 11 2026. No macro, syntax, notation, axiom, sorry.
-/
import Derived.Test.YtpjojhmdgeejmaaChecked
import GoSem.Claim
import GoSem.ClaimJoined
import GoSem.ClaimMapViews
import Derived.JoinedTies
import Derived.KernelRfl
namespace Go.Proofs.Ytpjojhmdgeejmaa
/- THE CELL 'sum', in the pinned program and in every row, IS THE sha256 OF THE DUMP (.gsa) THAT YtpjojhmdgeejmaaProg.lean LOADS. Nothing in Lean hashes anything: it is a label: what it is worth is what the hold of that sum in a sandbox is worth. -/
noncomputable def Try.pinned : Pinned := { name := "ytpjojhmdgeejmaa", sum := "38e85e37a07ac8960de5d0b98ce3c712a6d1b3abd30d62e5c18b412db8ba7b76", checked := Try.checked }
namespace Rows
def none {H : Type} : Left H := { results := [], args := [] }

/-- 'heartwoodlaw06.ScanIn': WHATEVER THE INPUT: true; the input reads as it did. -/
def scanInSpec : ChangeSpec := { name := "scanIn", fn := fun _ => fun
  | [d1, d2, d3] => { results := [.lit (.bool true)], args := [d1, d2, d3] }
  | _ => none }
def scanInRow : OpenClaim := { program := "ytpjojhmdgeejmaa", sum := "38e85e37a07ac8960de5d0b98ce3c712a6d1b3abd30d62e5c18b412db8ba7b76", func := "heartwood/heartwoodlaw06.ScanIn", spec := "scanIn", inPlace := ["internal/bytealg.Compare"], apart := false }
def ScanInSaid : Prop := scanInRow.holds Try.pinned (OpenSpec.ofChange scanInSpec)

/-- ITS FALSE NEIGHBOUR: 'it returns false'. Refute it at one input. -/
def scanInWrong : ChangeSpec := { name := "scanIn", fn := fun _ => fun
  | [d1, d2, d3] => { results := [.lit (.bool false)], args := [d1, d2, d3] }
  | _ => none }
def ScanInWrongFalsely : Prop := scanInRow.holds Try.pinned (OpenSpec.ofChange scanInWrong)

/-- 'heartwoodlaw06.ScanEmpty': WHATEVER THE INPUT: true; the input reads as it did. -/
def scanEmptySpec : ChangeSpec := { name := "scanEmpty", fn := fun _ => fun
  | [d1, d2, d3, d4, d5] => { results := [.lit (.bool true)], args := [d1, d2, d3, d4, d5] }
  | _ => none }
def scanEmptyRow : OpenClaim := { program := "ytpjojhmdgeejmaa", sum := "38e85e37a07ac8960de5d0b98ce3c712a6d1b3abd30d62e5c18b412db8ba7b76", func := "heartwood/heartwoodlaw06.ScanEmpty", spec := "scanEmpty", inPlace := ["internal/bytealg.Compare"], apart := false }
def ScanEmptySaid : Prop := scanEmptyRow.holds Try.pinned (OpenSpec.ofChange scanEmptySpec)

/-- ITS FALSE NEIGHBOUR: 'it returns false'. Refute it at one input. -/
def scanEmptyWrong : ChangeSpec := { name := "scanEmpty", fn := fun _ => fun
  | [d1, d2, d3, d4, d5] => { results := [.lit (.bool false)], args := [d1, d2, d3, d4, d5] }
  | _ => none }
def ScanEmptyWrongFalsely : Prop := scanEmptyRow.holds Try.pinned (OpenSpec.ofChange scanEmptyWrong)

/-- 'heartwoodlaw06.ScanNone': WHATEVER THE INPUT: true; the input reads as it did. -/
def scanNoneSpec : ChangeSpec := { name := "scanNone", fn := fun _ => fun
  | [d1, d2, d3, d4, d5, d6] => { results := [.lit (.bool true)], args := [d1, d2, d3, d4, d5, d6] }
  | _ => none }
def scanNoneRow : OpenClaim := { program := "ytpjojhmdgeejmaa", sum := "38e85e37a07ac8960de5d0b98ce3c712a6d1b3abd30d62e5c18b412db8ba7b76", func := "heartwood/heartwoodlaw06.ScanNone", spec := "scanNone", inPlace := ["internal/bytealg.Compare"], apart := false }
def ScanNoneSaid : Prop := scanNoneRow.holds Try.pinned (OpenSpec.ofChange scanNoneSpec)

/-- ITS FALSE NEIGHBOUR: 'it returns false'. Refute it at one input. -/
def scanNoneWrong : ChangeSpec := { name := "scanNone", fn := fun _ => fun
  | [d1, d2, d3, d4, d5, d6] => { results := [.lit (.bool false)], args := [d1, d2, d3, d4, d5, d6] }
  | _ => none }
def ScanNoneWrongFalsely : Prop := scanNoneRow.holds Try.pinned (OpenSpec.ofChange scanNoneWrong)

/-- 'heartwoodlaw06.ScanRanges': WHATEVER THE INPUT: true; the input reads as it did. -/
def scanRangesSpec : ChangeSpec := { name := "scanRanges", fn := fun _ => fun
  | [d1, d2] => { results := [.lit (.bool true)], args := [d1, d2] }
  | _ => none }
def scanRangesRow : OpenClaim := { program := "ytpjojhmdgeejmaa", sum := "38e85e37a07ac8960de5d0b98ce3c712a6d1b3abd30d62e5c18b412db8ba7b76", func := "heartwood/heartwoodlaw06.ScanRanges", spec := "scanRanges", inPlace := ["internal/bytealg.Compare"], unfollowed := true, recurses := true, loops := true, apart := false }
def ScanRangesSaid : Prop := scanRangesRow.holds Try.pinned (OpenSpec.ofChange scanRangesSpec)

/-- ITS FALSE NEIGHBOUR: 'it returns false'. Refute it at one input. -/
def scanRangesWrong : ChangeSpec := { name := "scanRanges", fn := fun _ => fun
  | [d1, d2] => { results := [.lit (.bool false)], args := [d1, d2] }
  | _ => none }
def ScanRangesWrongFalsely : Prop := scanRangesRow.holds Try.pinned (OpenSpec.ofChange scanRangesWrong)

/-- 'heartwoodlaw06.ScanParts': WHATEVER THE INPUT: true; the input reads as it did. -/
def scanPartsSpec : ChangeSpec := { name := "scanParts", fn := fun _ => fun
  | [d1, d2, d3] => { results := [.lit (.bool true)], args := [d1, d2, d3] }
  | _ => none }
def scanPartsRow : OpenClaim := { program := "ytpjojhmdgeejmaa", sum := "38e85e37a07ac8960de5d0b98ce3c712a6d1b3abd30d62e5c18b412db8ba7b76", func := "heartwood/heartwoodlaw06.ScanParts", spec := "scanParts", inPlace := ["internal/bytealg.Compare"], unfollowed := true, recurses := true, apart := false }
def ScanPartsSaid : Prop := scanPartsRow.holds Try.pinned (OpenSpec.ofChange scanPartsSpec)

/-- ITS FALSE NEIGHBOUR: 'it returns false'. Refute it at one input. -/
def scanPartsWrong : ChangeSpec := { name := "scanParts", fn := fun _ => fun
  | [d1, d2, d3] => { results := [.lit (.bool false)], args := [d1, d2, d3] }
  | _ => none }
def ScanPartsWrongFalsely : Prop := scanPartsRow.holds Try.pinned (OpenSpec.ofChange scanPartsWrong)

/-- 'heartwoodlaw06.ScanStays': WHATEVER THE INPUT: true; the input reads as it did. -/
def scanStaysSpec : ChangeSpec := { name := "scanStays", fn := fun _ => fun
  | [d1, d2] => { results := [.lit (.bool true)], args := [d1, d2] }
  | _ => none }
def scanStaysRow : OpenClaim := { program := "ytpjojhmdgeejmaa", sum := "38e85e37a07ac8960de5d0b98ce3c712a6d1b3abd30d62e5c18b412db8ba7b76", func := "heartwood/heartwoodlaw06.ScanStays", spec := "scanStays", inPlace := ["internal/bytealg.Compare"], unfollowed := true, recurses := true, apart := false }
def ScanStaysSaid : Prop := scanStaysRow.holds Try.pinned (OpenSpec.ofChange scanStaysSpec)

/-- ITS FALSE NEIGHBOUR: 'it returns false'. Refute it at one input. -/
def scanStaysWrong : ChangeSpec := { name := "scanStays", fn := fun _ => fun
  | [d1, d2] => { results := [.lit (.bool false)], args := [d1, d2] }
  | _ => none }
def ScanStaysWrongFalsely : Prop := scanStaysRow.holds Try.pinned (OpenSpec.ofChange scanStaysWrong)

/- THE SECOND FORM. 'bulk': how many values and letters a reading holds, each counted each time it is reached (what is shared counts as often as it is met; a slice's spare places count too). A statement '..UptoSaid' is the law's where the arguments, and the package variables that the reading takes, are together of bulk at most 1048576: NARROWER than '..Said'. Prove '..Said' where nothing that the law and all that it calls make is longer than what came in: it says more and counts as full. Else prove '..UptoSaid'. A law counts once. -/
mutual
def uptoBulk {H : Type} : DataW H → Nat
  | .lit (.string bytes) => bytes.length + 1
  | .lit _ => 1
  | .nil => 1
  | .ptr d => uptoBulk d + 1
  | .slice elems spare => uptoBulkAll elems + uptoBulkAll spare + 1
  | .agg parts => uptoBulkAll parts + 1
  | .iface _ d => uptoBulk d + 1
  | .map entries => uptoBulkEntries entries + 1
  | .held _ => 1
def uptoBulkAll {H : Type} : List (DataW H) → Nat
  | [] => 0
  | d :: r => uptoBulk d + uptoBulkAll r
def uptoBulkEntries {H : Type} : List (Lit × DataW H) → Nat
  | [] => 0
  | x :: r => uptoBulkEntry x + uptoBulkEntries r
def uptoBulkEntry {H : Type} : Lit × DataW H → Nat
  | (.string bytes, d) => bytes.length + uptoBulk d + 1
  | (_, d) => uptoBulk d + 1
 end
def uptoSmall : (H : Type) → List (DataW H) → Bool := fun _ ds => decide (uptoBulkAll ds ≤ 1048576)
def OpenSpec.upto (s : _root_.Go.ChangeSpec) : _root_.Go.OpenSpec := { _root_.Go.OpenSpec.ofChange s with cond := some uptoSmall }

/-- 'heartwoodlaw06.ScanIn', WHERE WHAT IT READS IS OF BULK AT MOST 1048576: true; the input reads as it did. -/
def scanInUptoRow : OpenClaim := { program := "ytpjojhmdgeejmaa", sum := "38e85e37a07ac8960de5d0b98ce3c712a6d1b3abd30d62e5c18b412db8ba7b76", func := "heartwood/heartwoodlaw06.ScanIn", spec := "scanIn", inPlace := ["internal/bytealg.Compare"], apart := false, narrowed := true }
def ScanInUptoSaid : Prop := scanInUptoRow.holds Try.pinned (OpenSpec.upto scanInSpec)

/-- 'heartwoodlaw06.ScanEmpty', WHERE WHAT IT READS IS OF BULK AT MOST 1048576: true; the input reads as it did. -/
def scanEmptyUptoRow : OpenClaim := { program := "ytpjojhmdgeejmaa", sum := "38e85e37a07ac8960de5d0b98ce3c712a6d1b3abd30d62e5c18b412db8ba7b76", func := "heartwood/heartwoodlaw06.ScanEmpty", spec := "scanEmpty", inPlace := ["internal/bytealg.Compare"], apart := false, narrowed := true }
def ScanEmptyUptoSaid : Prop := scanEmptyUptoRow.holds Try.pinned (OpenSpec.upto scanEmptySpec)

/-- 'heartwoodlaw06.ScanNone', WHERE WHAT IT READS IS OF BULK AT MOST 1048576: true; the input reads as it did. -/
def scanNoneUptoRow : OpenClaim := { program := "ytpjojhmdgeejmaa", sum := "38e85e37a07ac8960de5d0b98ce3c712a6d1b3abd30d62e5c18b412db8ba7b76", func := "heartwood/heartwoodlaw06.ScanNone", spec := "scanNone", inPlace := ["internal/bytealg.Compare"], apart := false, narrowed := true }
def ScanNoneUptoSaid : Prop := scanNoneUptoRow.holds Try.pinned (OpenSpec.upto scanNoneSpec)

/-- 'heartwoodlaw06.ScanRanges', WHERE WHAT IT READS IS OF BULK AT MOST 1048576: true; the input reads as it did. -/
def scanRangesUptoRow : OpenClaim := { program := "ytpjojhmdgeejmaa", sum := "38e85e37a07ac8960de5d0b98ce3c712a6d1b3abd30d62e5c18b412db8ba7b76", func := "heartwood/heartwoodlaw06.ScanRanges", spec := "scanRanges", inPlace := ["internal/bytealg.Compare"], unfollowed := true, recurses := true, loops := true, apart := false, narrowed := true }
def ScanRangesUptoSaid : Prop := scanRangesUptoRow.holds Try.pinned (OpenSpec.upto scanRangesSpec)

/-- 'heartwoodlaw06.ScanParts', WHERE WHAT IT READS IS OF BULK AT MOST 1048576: true; the input reads as it did. -/
def scanPartsUptoRow : OpenClaim := { program := "ytpjojhmdgeejmaa", sum := "38e85e37a07ac8960de5d0b98ce3c712a6d1b3abd30d62e5c18b412db8ba7b76", func := "heartwood/heartwoodlaw06.ScanParts", spec := "scanParts", inPlace := ["internal/bytealg.Compare"], unfollowed := true, recurses := true, apart := false, narrowed := true }
def ScanPartsUptoSaid : Prop := scanPartsUptoRow.holds Try.pinned (OpenSpec.upto scanPartsSpec)

/-- 'heartwoodlaw06.ScanStays', WHERE WHAT IT READS IS OF BULK AT MOST 1048576: true; the input reads as it did. -/
def scanStaysUptoRow : OpenClaim := { program := "ytpjojhmdgeejmaa", sum := "38e85e37a07ac8960de5d0b98ce3c712a6d1b3abd30d62e5c18b412db8ba7b76", func := "heartwood/heartwoodlaw06.ScanStays", spec := "scanStays", inPlace := ["internal/bytealg.Compare"], unfollowed := true, recurses := true, apart := false, narrowed := true }
def ScanStaysUptoSaid : Prop := scanStaysUptoRow.holds Try.pinned (OpenSpec.upto scanStaysSpec)

end Rows
end Go.Proofs.Ytpjojhmdgeejmaa
