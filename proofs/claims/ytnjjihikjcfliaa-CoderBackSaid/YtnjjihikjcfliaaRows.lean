/-
  No cell of these rows narrows 'for every input' (looked for: loops, veiled, ifaces, maps, wideKeys, modest, calm, conditions, laid).
  DERIVED. THE GIVEN ROWS OF THIS SEAT. 6 by the template 'for every input the law returns true; each argument reads behind the call as it read before'; 0 by the template 'total and deterministic' (their statements: YtnjjihikjcfliaaTotals.lean).
  GIVEN WITH THE SEED: the statements are not yours to turn. If you find one false, say at which input.
  Laid BY PROGRAM, IN A SANDBOX (cutbox-rows.mjs): the forced cells as the released guide's own fill.sh prints them over the translation 6f1b714a1af7fb11… (all of the seat's roots in one cut). By AI agents, Wed Nov 11 2026. No macro, syntax, notation, axiom, sorry.
-/
import Derived.Test.YtnjjihikjcfliaaChecked
import GoSem.Claim
import GoSem.ClaimJoined
import GoSem.ClaimMapViews
import Derived.JoinedTies
import Derived.KernelRfl
namespace Go.Proofs.Ytnjjihikjcfliaa
/- THE CELL 'sum', in the pinned program and in every row, IS THE sha256 OF THE DUMP (.gsa) THAT YtnjjihikjcfliaaProg.lean LOADS. Nothing in Lean hashes anything: it is a label: what it is worth is what the hold of that sum in a sandbox is worth. -/
noncomputable def Try.pinned : Pinned := { name := "ytnjjihikjcfliaa", sum := "6f1b714a1af7fb1117cd837788c1131bf54c1f6be1e7a62260a3d80d23436d97", checked := Try.checked }
namespace Rows
def none {H : Type} : Left H := { results := [], args := [] }

/-- 'heartwoodlaw02.CoderNumbers': WHATEVER THE INPUT: true; the input reads as it did. -/
def coderNumbersSpec : ChangeSpec := { name := "coderNumbers", fn := fun _ => fun
  | [d] => { results := [.lit (.bool true)], args := [d] }
  | _ => none }
def coderNumbersRow : OpenClaim := { program := "ytnjjihikjcfliaa", sum := "6f1b714a1af7fb1117cd837788c1131bf54c1f6be1e7a62260a3d80d23436d97", func := "heartwood/heartwoodlaw02.CoderNumbers", spec := "coderNumbers", apart := false }
def CoderNumbersSaid : Prop := coderNumbersRow.holds Try.pinned (OpenSpec.ofChange coderNumbersSpec)

/-- ITS FALSE NEIGHBOUR: 'it returns false'. Refute it at one input. -/
def coderNumbersWrong : ChangeSpec := { name := "coderNumbers", fn := fun _ => fun
  | [d] => { results := [.lit (.bool false)], args := [d] }
  | _ => none }
def CoderNumbersWrongFalsely : Prop := coderNumbersRow.holds Try.pinned (OpenSpec.ofChange coderNumbersWrong)

/-- 'heartwoodlaw02.CoderBytes': WHATEVER THE INPUT: true; the input reads as it did. -/
def coderBytesSpec : ChangeSpec := { name := "coderBytes", fn := fun _ => fun
  | [d] => { results := [.lit (.bool true)], args := [d] }
  | _ => none }
def coderBytesRow : OpenClaim := { program := "ytnjjihikjcfliaa", sum := "6f1b714a1af7fb1117cd837788c1131bf54c1f6be1e7a62260a3d80d23436d97", func := "heartwood/heartwoodlaw02.CoderBytes", spec := "coderBytes", apart := false }
def CoderBytesSaid : Prop := coderBytesRow.holds Try.pinned (OpenSpec.ofChange coderBytesSpec)

/-- ITS FALSE NEIGHBOUR: 'it returns false'. Refute it at one input. -/
def coderBytesWrong : ChangeSpec := { name := "coderBytes", fn := fun _ => fun
  | [d] => { results := [.lit (.bool false)], args := [d] }
  | _ => none }
def CoderBytesWrongFalsely : Prop := coderBytesRow.holds Try.pinned (OpenSpec.ofChange coderBytesWrong)

/-- 'heartwoodlaw02.CoderReads': WHATEVER THE INPUT: true; the input reads as it did. -/
def coderReadsSpec : ChangeSpec := { name := "coderReads", fn := fun _ => fun
  | [d1, d2] => { results := [.lit (.bool true)], args := [d1, d2] }
  | _ => none }
def coderReadsRow : OpenClaim := { program := "ytnjjihikjcfliaa", sum := "6f1b714a1af7fb1117cd837788c1131bf54c1f6be1e7a62260a3d80d23436d97", func := "heartwood/heartwoodlaw02.CoderReads", spec := "coderReads", apart := false }
def CoderReadsSaid : Prop := coderReadsRow.holds Try.pinned (OpenSpec.ofChange coderReadsSpec)

/-- ITS FALSE NEIGHBOUR: 'it returns false'. Refute it at one input. -/
def coderReadsWrong : ChangeSpec := { name := "coderReads", fn := fun _ => fun
  | [d1, d2] => { results := [.lit (.bool false)], args := [d1, d2] }
  | _ => none }
def CoderReadsWrongFalsely : Prop := coderReadsRow.holds Try.pinned (OpenSpec.ofChange coderReadsWrong)

/-- 'heartwoodlaw02.CoderBack': WHATEVER THE INPUT: true; the input reads as it did. -/
def coderBackSpec : ChangeSpec := { name := "coderBack", fn := fun _ => fun
  | [d1, d2] => { results := [.lit (.bool true)], args := [d1, d2] }
  | _ => none }
def coderBackRow : OpenClaim := { program := "ytnjjihikjcfliaa", sum := "6f1b714a1af7fb1117cd837788c1131bf54c1f6be1e7a62260a3d80d23436d97", func := "heartwood/heartwoodlaw02.CoderBack", spec := "coderBack", apart := false }
def CoderBackSaid : Prop := coderBackRow.holds Try.pinned (OpenSpec.ofChange coderBackSpec)

/-- ITS FALSE NEIGHBOUR: 'it returns false'. Refute it at one input. -/
def coderBackWrong : ChangeSpec := { name := "coderBack", fn := fun _ => fun
  | [d1, d2] => { results := [.lit (.bool false)], args := [d1, d2] }
  | _ => none }
def CoderBackWrongFalsely : Prop := coderBackRow.holds Try.pinned (OpenSpec.ofChange coderBackWrong)

/-- 'heartwoodlaw02.CoderApart': WHATEVER THE INPUT: true; the input reads as it did. -/
def coderApartSpec : ChangeSpec := { name := "coderApart", fn := fun _ => fun
  | [d1, d2, d3] => { results := [.lit (.bool true)], args := [d1, d2, d3] }
  | _ => none }
def coderApartRow : OpenClaim := { program := "ytnjjihikjcfliaa", sum := "6f1b714a1af7fb1117cd837788c1131bf54c1f6be1e7a62260a3d80d23436d97", func := "heartwood/heartwoodlaw02.CoderApart", spec := "coderApart", apart := false }
def CoderApartSaid : Prop := coderApartRow.holds Try.pinned (OpenSpec.ofChange coderApartSpec)

/-- ITS FALSE NEIGHBOUR: 'it returns false'. Refute it at one input. -/
def coderApartWrong : ChangeSpec := { name := "coderApart", fn := fun _ => fun
  | [d1, d2, d3] => { results := [.lit (.bool false)], args := [d1, d2, d3] }
  | _ => none }
def CoderApartWrongFalsely : Prop := coderApartRow.holds Try.pinned (OpenSpec.ofChange coderApartWrong)

/-- 'heartwoodlaw02.CoderStays': WHATEVER THE INPUT: true; the input reads as it did. -/
def coderStaysSpec : ChangeSpec := { name := "coderStays", fn := fun _ => fun
  | [d] => { results := [.lit (.bool true)], args := [d] }
  | _ => none }
def coderStaysRow : OpenClaim := { program := "ytnjjihikjcfliaa", sum := "6f1b714a1af7fb1117cd837788c1131bf54c1f6be1e7a62260a3d80d23436d97", func := "heartwood/heartwoodlaw02.CoderStays", spec := "coderStays", apart := false }
def CoderStaysSaid : Prop := coderStaysRow.holds Try.pinned (OpenSpec.ofChange coderStaysSpec)

/-- ITS FALSE NEIGHBOUR: 'it returns false'. Refute it at one input. -/
def coderStaysWrong : ChangeSpec := { name := "coderStays", fn := fun _ => fun
  | [d] => { results := [.lit (.bool false)], args := [d] }
  | _ => none }
def CoderStaysWrongFalsely : Prop := coderStaysRow.holds Try.pinned (OpenSpec.ofChange coderStaysWrong)

/- THE SECOND FORM. 'bulk': how many values and letters a reading holds, each counted each time it is reached (what is shared counts as often as it is met; a slice's spare places count too). A statement '..UptoSaid' is the law's where the arguments, and the package variables that the reading takes, are together of bulk at most 1048576: NARROWER than '..Said'. Prove '..Said' where nothing that the law and all that it calls make is longer than what came in: it says more and counts as full. Else prove '..UptoSaid'. A law counts once. -/
mutual
def uptoBulk {H : Type} : DataW H → Nat
  | .lit (.string bytes) => bytes.length + 1
  | .lit _ => 1
  | .nil => 1
  | .ptr d => uptoBulk d + 1
  | .slice elems spare => uptoBulkAll elems + uptoBulkAll spare + 1
  | .agg parts => uptoBulkAll parts + 1
  | .iface _ d => uptoBulk d + 1
  | .map entries => uptoBulkEntries entries + 1
  | .held _ => 1
def uptoBulkAll {H : Type} : List (DataW H) → Nat
  | [] => 0
  | d :: r => uptoBulk d + uptoBulkAll r
def uptoBulkEntries {H : Type} : List (Lit × DataW H) → Nat
  | [] => 0
  | x :: r => uptoBulkEntry x + uptoBulkEntries r
def uptoBulkEntry {H : Type} : Lit × DataW H → Nat
  | (.string bytes, d) => bytes.length + uptoBulk d + 1
  | (_, d) => uptoBulk d + 1
 end
def uptoSmall : (H : Type) → List (DataW H) → Bool := fun _ ds => decide (uptoBulkAll ds ≤ 1048576)
def OpenSpec.upto (s : _root_.Go.ChangeSpec) : _root_.Go.OpenSpec := { _root_.Go.OpenSpec.ofChange s with cond := some uptoSmall }

/-- 'heartwoodlaw02.CoderNumbers', WHERE WHAT IT READS IS OF BULK AT MOST 1048576: true; the input reads as it did. -/
def coderNumbersUptoRow : OpenClaim := { program := "ytnjjihikjcfliaa", sum := "6f1b714a1af7fb1117cd837788c1131bf54c1f6be1e7a62260a3d80d23436d97", func := "heartwood/heartwoodlaw02.CoderNumbers", spec := "coderNumbers", apart := false, narrowed := true }
def CoderNumbersUptoSaid : Prop := coderNumbersUptoRow.holds Try.pinned (OpenSpec.upto coderNumbersSpec)

/-- 'heartwoodlaw02.CoderBytes', WHERE WHAT IT READS IS OF BULK AT MOST 1048576: true; the input reads as it did. -/
def coderBytesUptoRow : OpenClaim := { program := "ytnjjihikjcfliaa", sum := "6f1b714a1af7fb1117cd837788c1131bf54c1f6be1e7a62260a3d80d23436d97", func := "heartwood/heartwoodlaw02.CoderBytes", spec := "coderBytes", apart := false, narrowed := true }
def CoderBytesUptoSaid : Prop := coderBytesUptoRow.holds Try.pinned (OpenSpec.upto coderBytesSpec)

/-- 'heartwoodlaw02.CoderReads', WHERE WHAT IT READS IS OF BULK AT MOST 1048576: true; the input reads as it did. -/
def coderReadsUptoRow : OpenClaim := { program := "ytnjjihikjcfliaa", sum := "6f1b714a1af7fb1117cd837788c1131bf54c1f6be1e7a62260a3d80d23436d97", func := "heartwood/heartwoodlaw02.CoderReads", spec := "coderReads", apart := false, narrowed := true }
def CoderReadsUptoSaid : Prop := coderReadsUptoRow.holds Try.pinned (OpenSpec.upto coderReadsSpec)

/-- 'heartwoodlaw02.CoderBack', WHERE WHAT IT READS IS OF BULK AT MOST 1048576: true; the input reads as it did. -/
def coderBackUptoRow : OpenClaim := { program := "ytnjjihikjcfliaa", sum := "6f1b714a1af7fb1117cd837788c1131bf54c1f6be1e7a62260a3d80d23436d97", func := "heartwood/heartwoodlaw02.CoderBack", spec := "coderBack", apart := false, narrowed := true }
def CoderBackUptoSaid : Prop := coderBackUptoRow.holds Try.pinned (OpenSpec.upto coderBackSpec)

/-- 'heartwoodlaw02.CoderApart', WHERE WHAT IT READS IS OF BULK AT MOST 1048576: true; the input reads as it did. -/
def coderApartUptoRow : OpenClaim := { program := "ytnjjihikjcfliaa", sum := "6f1b714a1af7fb1117cd837788c1131bf54c1f6be1e7a62260a3d80d23436d97", func := "heartwood/heartwoodlaw02.CoderApart", spec := "coderApart", apart := false, narrowed := true }
def CoderApartUptoSaid : Prop := coderApartUptoRow.holds Try.pinned (OpenSpec.upto coderApartSpec)

/-- 'heartwoodlaw02.CoderStays', WHERE WHAT IT READS IS OF BULK AT MOST 1048576: true; the input reads as it did. -/
def coderStaysUptoRow : OpenClaim := { program := "ytnjjihikjcfliaa", sum := "6f1b714a1af7fb1117cd837788c1131bf54c1f6be1e7a62260a3d80d23436d97", func := "heartwood/heartwoodlaw02.CoderStays", spec := "coderStays", apart := false, narrowed := true }
def CoderStaysUptoSaid : Prop := coderStaysUptoRow.holds Try.pinned (OpenSpec.upto coderStaysSpec)

end Rows
end Go.Proofs.Ytnjjihikjcfliaa
