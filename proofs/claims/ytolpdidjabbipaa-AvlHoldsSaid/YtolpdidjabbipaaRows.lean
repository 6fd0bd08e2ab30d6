/-
  NARROWER THAN 'FOR EVERY INPUT', by the rows' own cells (each row's printed sentence says how): AvlIs: loops · AvlGets: loops · AvlPuts: loops · AvlDeletes: loops.
  DERIVED. THE GIVEN ROWS OF THIS SEAT. 5 by the template 'for every input the law returns true; each argument reads behind the call as it read before'; 0 by the template 'total and deterministic' (their statements: YtolpdidjabbipaaTotals.lean).
  GIVEN WITH THE SEED: the statements are not yours to turn. If you find one false, say at which input.
  Laid BY PROGRAM, IN A SANDBOX (cutbox-rows.mjs): the forced cells as the released guide's own fill.sh prints them over the translation af20be6605307c46… (all of the seat's roots in one cut). By AI agents, Wed Nov 11 2026. No macro, syntax, notation, axiom, sorry.
-/
import Derived.Test.YtolpdidjabbipaaChecked
import GoSem.Claim
import GoSem.ClaimJoined
import GoSem.ClaimMapViews
import Derived.JoinedTies
import Derived.KernelRfl
namespace Go.Proofs.Ytolpdidjabbipaa
/- THE CELL 'sum', in the pinned program and in every row, IS THE sha256 OF THE DUMP (.gsa) THAT YtolpdidjabbipaaProg.lean LOADS. Nothing in Lean hashes anything: it is a label: what it is worth is what the hold of that sum in a sandbox is worth. -/
noncomputable def Try.pinned : Pinned := { name := "ytolpdidjabbipaa", sum := "af20be6605307c46903745f970eb43412af9afc9267d0a2abb5377f0400277bf", checked := Try.checked }
namespace Rows
def none {H : Type} : Left H := { results := [], args := [] }

/-- 'heartwoodlaw05.AvlIs': WHATEVER THE INPUT: true; the input reads as it did. -/
def avlIsSpec : ChangeSpec := { name := "avlIs", fn := fun _ => fun
  | [d] => { results := [.lit (.bool true)], args := [d] }
  | _ => none }
def avlIsRow : OpenClaim := { program := "ytolpdidjabbipaa", sum := "af20be6605307c46903745f970eb43412af9afc9267d0a2abb5377f0400277bf", func := "heartwood/heartwoodlaw05.AvlIs", spec := "avlIs", inPlace := ["internal/bytealg.Compare"], unfollowed := true, recurses := true, loops := true, apart := false }
def AvlIsSaid : Prop := avlIsRow.holds Try.pinned (OpenSpec.ofChange avlIsSpec)

/-- ITS FALSE NEIGHBOUR: 'it returns false'. Refute it at one input. -/
def avlIsWrong : ChangeSpec := { name := "avlIs", fn := fun _ => fun
  | [d] => { results := [.lit (.bool false)], args := [d] }
  | _ => none }
def AvlIsWrongFalsely : Prop := avlIsRow.holds Try.pinned (OpenSpec.ofChange avlIsWrong)

/-- 'heartwoodlaw05.AvlGets': WHATEVER THE INPUT: true; the input reads as it did. -/
def avlGetsSpec : ChangeSpec := { name := "avlGets", fn := fun _ => fun
  | [d1, d2] => { results := [.lit (.bool true)], args := [d1, d2] }
  | _ => none }
def avlGetsRow : OpenClaim := { program := "ytolpdidjabbipaa", sum := "af20be6605307c46903745f970eb43412af9afc9267d0a2abb5377f0400277bf", func := "heartwood/heartwoodlaw05.AvlGets", spec := "avlGets", inPlace := ["internal/bytealg.Compare"], unfollowed := true, recurses := true, loops := true, apart := false }
def AvlGetsSaid : Prop := avlGetsRow.holds Try.pinned (OpenSpec.ofChange avlGetsSpec)

/-- ITS FALSE NEIGHBOUR: 'it returns false'. Refute it at one input. -/
def avlGetsWrong : ChangeSpec := { name := "avlGets", fn := fun _ => fun
  | [d1, d2] => { results := [.lit (.bool false)], args := [d1, d2] }
  | _ => none }
def AvlGetsWrongFalsely : Prop := avlGetsRow.holds Try.pinned (OpenSpec.ofChange avlGetsWrong)

/-- 'heartwoodlaw05.AvlPuts': WHATEVER THE INPUT: true; the input reads as it did. -/
def avlPutsSpec : ChangeSpec := { name := "avlPuts", fn := fun _ => fun
  | [d1, d2, d3] => { results := [.lit (.bool true)], args := [d1, d2, d3] }
  | _ => none }
def avlPutsRow : OpenClaim := { program := "ytolpdidjabbipaa", sum := "af20be6605307c46903745f970eb43412af9afc9267d0a2abb5377f0400277bf", func := "heartwood/heartwoodlaw05.AvlPuts", spec := "avlPuts", inPlace := ["internal/bytealg.Compare"], unfollowed := true, recurses := true, loops := true, apart := false }
def AvlPutsSaid : Prop := avlPutsRow.holds Try.pinned (OpenSpec.ofChange avlPutsSpec)

/-- ITS FALSE NEIGHBOUR: 'it returns false'. Refute it at one input. -/
def avlPutsWrong : ChangeSpec := { name := "avlPuts", fn := fun _ => fun
  | [d1, d2, d3] => { results := [.lit (.bool false)], args := [d1, d2, d3] }
  | _ => none }
def AvlPutsWrongFalsely : Prop := avlPutsRow.holds Try.pinned (OpenSpec.ofChange avlPutsWrong)

/-- 'heartwoodlaw05.AvlDeletes': WHATEVER THE INPUT: true; the input reads as it did. -/
def avlDeletesSpec : ChangeSpec := { name := "avlDeletes", fn := fun _ => fun
  | [d1, d2] => { results := [.lit (.bool true)], args := [d1, d2] }
  | _ => none }
def avlDeletesRow : OpenClaim := { program := "ytolpdidjabbipaa", sum := "af20be6605307c46903745f970eb43412af9afc9267d0a2abb5377f0400277bf", func := "heartwood/heartwoodlaw05.AvlDeletes", spec := "avlDeletes", inPlace := ["internal/bytealg.Compare"], unfollowed := true, recurses := true, loops := true, apart := false }
def AvlDeletesSaid : Prop := avlDeletesRow.holds Try.pinned (OpenSpec.ofChange avlDeletesSpec)

/-- ITS FALSE NEIGHBOUR: 'it returns false'. Refute it at one input. -/
def avlDeletesWrong : ChangeSpec := { name := "avlDeletes", fn := fun _ => fun
  | [d1, d2] => { results := [.lit (.bool false)], args := [d1, d2] }
  | _ => none }
def AvlDeletesWrongFalsely : Prop := avlDeletesRow.holds Try.pinned (OpenSpec.ofChange avlDeletesWrong)

/-- 'heartwoodlaw05.AvlHolds': WHATEVER THE INPUT: true; the input reads as it did. -/
def avlHoldsSpec : ChangeSpec := { name := "avlHolds", fn := fun _ => fun
  | [d] => { results := [.lit (.bool true)], args := [d] }
  | _ => none }
def avlHoldsRow : OpenClaim := { program := "ytolpdidjabbipaa", sum := "af20be6605307c46903745f970eb43412af9afc9267d0a2abb5377f0400277bf", func := "heartwood/heartwoodlaw05.AvlHolds", spec := "avlHolds", inPlace := ["internal/bytealg.Compare"], unfollowed := true, recurses := true, apart := false }
def AvlHoldsSaid : Prop := avlHoldsRow.holds Try.pinned (OpenSpec.ofChange avlHoldsSpec)

/-- ITS FALSE NEIGHBOUR: 'it returns false'. Refute it at one input. -/
def avlHoldsWrong : ChangeSpec := { name := "avlHolds", fn := fun _ => fun
  | [d] => { results := [.lit (.bool false)], args := [d] }
  | _ => none }
def AvlHoldsWrongFalsely : Prop := avlHoldsRow.holds Try.pinned (OpenSpec.ofChange avlHoldsWrong)

/- THE SECOND FORM. 'bulk': how many values and letters a reading holds, each counted each time it is reached (what is shared counts as often as it is met; a slice's spare places count too). A statement '..UptoSaid' is the law's where the arguments, and the package variables that the reading takes, are together of bulk at most 1048576: NARROWER than '..Said'. Prove '..Said' where nothing that the law and all that it calls make is longer than what came in: it says more and counts as full. Else prove '..UptoSaid'. A law counts once. -/
mutual
def uptoBulk {H : Type} : DataW H → Nat
  | .lit (.string bytes) => bytes.length + 1
  | .lit _ => 1
  | .nil => 1
  | .ptr d => uptoBulk d + 1
  | .slice elems spare => uptoBulkAll elems + uptoBulkAll spare + 1
  | .agg parts => uptoBulkAll parts + 1
  | .iface _ d => uptoBulk d + 1
  | .map entries => uptoBulkEntries entries + 1
  | .held _ => 1
def uptoBulkAll {H : Type} : List (DataW H) → Nat
  | [] => 0
  | d :: r => uptoBulk d + uptoBulkAll r
def uptoBulkEntries {H : Type} : List (Lit × DataW H) → Nat
  | [] => 0
  | x :: r => uptoBulkEntry x + uptoBulkEntries r
def uptoBulkEntry {H : Type} : Lit × DataW H → Nat
  | (.string bytes, d) => bytes.length + uptoBulk d + 1
  | (_, d) => uptoBulk d + 1
 end
def uptoSmall : (H : Type) → List (DataW H) → Bool := fun _ ds => decide (uptoBulkAll ds ≤ 1048576)
def OpenSpec.upto (s : _root_.Go.ChangeSpec) : _root_.Go.OpenSpec := { _root_.Go.OpenSpec.ofChange s with cond := some uptoSmall }

/-- 'heartwoodlaw05.AvlIs', WHERE WHAT IT READS IS OF BULK AT MOST 1048576: true; the input reads as it did. -/
def avlIsUptoRow : OpenClaim := { program := "ytolpdidjabbipaa", sum := "af20be6605307c46903745f970eb43412af9afc9267d0a2abb5377f0400277bf", func := "heartwood/heartwoodlaw05.AvlIs", spec := "avlIs", inPlace := ["internal/bytealg.Compare"], unfollowed := true, recurses := true, loops := true, apart := false, narrowed := true }
def AvlIsUptoSaid : Prop := avlIsUptoRow.holds Try.pinned (OpenSpec.upto avlIsSpec)

/-- 'heartwoodlaw05.AvlGets', WHERE WHAT IT READS IS OF BULK AT MOST 1048576: true; the input reads as it did. -/
def avlGetsUptoRow : OpenClaim := { program := "ytolpdidjabbipaa", sum := "af20be6605307c46903745f970eb43412af9afc9267d0a2abb5377f0400277bf", func := "heartwood/heartwoodlaw05.AvlGets", spec := "avlGets", inPlace := ["internal/bytealg.Compare"], unfollowed := true, recurses := true, loops := true, apart := false, narrowed := true }
def AvlGetsUptoSaid : Prop := avlGetsUptoRow.holds Try.pinned (OpenSpec.upto avlGetsSpec)

/-- 'heartwoodlaw05.AvlPuts', WHERE WHAT IT READS IS OF BULK AT MOST 1048576: true; the input reads as it did. -/
def avlPutsUptoRow : OpenClaim := { program := "ytolpdidjabbipaa", sum := "af20be6605307c46903745f970eb43412af9afc9267d0a2abb5377f0400277bf", func := "heartwood/heartwoodlaw05.AvlPuts", spec := "avlPuts", inPlace := ["internal/bytealg.Compare"], unfollowed := true, recurses := true, loops := true, apart := false, narrowed := true }
def AvlPutsUptoSaid : Prop := avlPutsUptoRow.holds Try.pinned (OpenSpec.upto avlPutsSpec)

/-- 'heartwoodlaw05.AvlDeletes', WHERE WHAT IT READS IS OF BULK AT MOST 1048576: true; the input reads as it did. -/
def avlDeletesUptoRow : OpenClaim := { program := "ytolpdidjabbipaa", sum := "af20be6605307c46903745f970eb43412af9afc9267d0a2abb5377f0400277bf", func := "heartwood/heartwoodlaw05.AvlDeletes", spec := "avlDeletes", inPlace := ["internal/bytealg.Compare"], unfollowed := true, recurses := true, loops := true, apart := false, narrowed := true }
def AvlDeletesUptoSaid : Prop := avlDeletesUptoRow.holds Try.pinned (OpenSpec.upto avlDeletesSpec)

/-- 'heartwoodlaw05.AvlHolds', WHERE WHAT IT READS IS OF BULK AT MOST 1048576: true; the input reads as it did. -/
def avlHoldsUptoRow : OpenClaim := { program := "ytolpdidjabbipaa", sum := "af20be6605307c46903745f970eb43412af9afc9267d0a2abb5377f0400277bf", func := "heartwood/heartwoodlaw05.AvlHolds", spec := "avlHolds", inPlace := ["internal/bytealg.Compare"], unfollowed := true, recurses := true, apart := false, narrowed := true }
def AvlHoldsUptoSaid : Prop := avlHoldsUptoRow.holds Try.pinned (OpenSpec.upto avlHoldsSpec)

end Rows
end Go.Proofs.Ytolpdidjabbipaa
