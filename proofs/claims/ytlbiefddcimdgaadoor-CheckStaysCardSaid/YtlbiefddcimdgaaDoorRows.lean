/-
  NARROWER THAN 'FOR EVERY INPUT', by the rows' own cells (each row's printed sentence says how): CheckTakes: loops, laid · CheckOwn: loops, laid · CheckBytes: loops, laid · CheckHonest: laid · CheckLess: loops, laid · CheckStays: laid.
  DERIVED. THE GIVEN ROWS OF THIS SEAT. 6 by the template 'for every input the law returns true; each argument reads behind the call as it read before'; 0 by the template 'total and deterministic' (their statements: YtlbiefddcimdgaaDoorTotals.lean).
  GIVEN WITH THE SEED: the statements are not yours to turn. If you find one false, say at which input.
  Laid BY PROGRAM, IN A SANDBOX (cutbox-rows.mjs): the forced cells as the released guide's own fill.sh prints them over the translation 5aefba3f889ce847… (all of the seat's roots in one cut). By AI agents, Wed Nov 11 2026. No macro, syntax, notation, axiom, sorry.
-/
import Derived.Test.YtlbiefddcimdgaaDoorChecked
import GoSem.Claim
import GoSem.ClaimJoined
import GoSem.ClaimMapViews
import Derived.JoinedTies
import Derived.KernelRfl
namespace Go.Proofs.YtlbiefddcimdgaaDoor
/- THE CELL 'sum', in the pinned program and in every row, IS THE sha256 OF THE DUMP (.gsa) THAT YtlbiefddcimdgaaDoorProg.lean LOADS. Nothing in Lean hashes anything: it is a label: what it is worth is what the hold of that sum in a sandbox is worth. -/
noncomputable def Tryd.pinned : Pinned := { name := "ytlbiefddcimdgaadoor", sum := "5aefba3f889ce8476a0e269d486e08a49efede4803d469accfa9f409b60c3b9d", checked := Tryd.checked }
namespace Rows
def none {H : Type} : Left H := { results := [], args := [] }

/- WHAT THE LISTED PACKAGE-LEVEL VARIABLES READ AS WHEN THE CALL BEGINS. Each datum BY PROGRAM (the guide's laid-datum.mjs) off the statement by which the dump's own 'gosem.cut.vars' lays the variable. In a bare row this is a premise. The card (YtlbiefddcimdgaaDoorCards.lean) ties it to the program's text. -/
def laid_heartwood_sha_roundConstants {H : Type} : DataW H := .agg [.lit (.int .u32 1116352408), .lit (.int .u32 1899447441), .lit (.int .u32 3049323471), .lit (.int .u32 3921009573), .lit (.int .u32 961987163), .lit (.int .u32 1508970993), .lit (.int .u32 2453635748), .lit (.int .u32 2870763221), .lit (.int .u32 3624381080), .lit (.int .u32 310598401), .lit (.int .u32 607225278), .lit (.int .u32 1426881987), .lit (.int .u32 1925078388), .lit (.int .u32 2162078206), .lit (.int .u32 2614888103), .lit (.int .u32 3248222580), .lit (.int .u32 3835390401), .lit (.int .u32 4022224774), .lit (.int .u32 264347078), .lit (.int .u32 604807628), .lit (.int .u32 770255983), .lit (.int .u32 1249150122), .lit (.int .u32 1555081692), .lit (.int .u32 1996064986), .lit (.int .u32 2554220882), .lit (.int .u32 2821834349), .lit (.int .u32 2952996808), .lit (.int .u32 3210313671), .lit (.int .u32 3336571891), .lit (.int .u32 3584528711), .lit (.int .u32 113926993), .lit (.int .u32 338241895), .lit (.int .u32 666307205), .lit (.int .u32 773529912), .lit (.int .u32 1294757372), .lit (.int .u32 1396182291), .lit (.int .u32 1695183700), .lit (.int .u32 1986661051), .lit (.int .u32 2177026350), .lit (.int .u32 2456956037), .lit (.int .u32 2730485921), .lit (.int .u32 2820302411), .lit (.int .u32 3259730800), .lit (.int .u32 3345764771), .lit (.int .u32 3516065817), .lit (.int .u32 3600352804), .lit (.int .u32 4094571909), .lit (.int .u32 275423344), .lit (.int .u32 430227734), .lit (.int .u32 506948616), .lit (.int .u32 659060556), .lit (.int .u32 883997877), .lit (.int .u32 958139571), .lit (.int .u32 1322822218), .lit (.int .u32 1537002063), .lit (.int .u32 1747873779), .lit (.int .u32 1955562222), .lit (.int .u32 2024104815), .lit (.int .u32 2227730452), .lit (.int .u32 2361852424), .lit (.int .u32 2428436474), .lit (.int .u32 2756734187), .lit (.int .u32 3204031479), .lit (.int .u32 3329325298)]
def laid_heartwood_sha_initialState {H : Type} : DataW H := .agg [.lit (.int .u32 1779033703), .lit (.int .u32 3144134277), .lit (.int .u32 1013904242), .lit (.int .u32 2773480762), .lit (.int .u32 1359893119), .lit (.int .u32 2600822924), .lit (.int .u32 528734635), .lit (.int .u32 1541459225)]

/-- 'heartwoodlaw08.CheckTakes': WHATEVER THE INPUT: true; the input reads as it did. -/
def checkTakesSpec : ChangeSpec := { name := "checkTakes", fn := fun _ => fun
  | [d1, d2, d3, d4] => { results := [.lit (.bool true)], args := [d1, d2, d3, d4] }
  | _ => none }
def checkTakesRow : OpenClaim := { program := "ytlbiefddcimdgaadoor", sum := "5aefba3f889ce8476a0e269d486e08a49efede4803d469accfa9f409b60c3b9d", func := "heartwood/heartwoodlaw08.CheckTakes", spec := "checkTakes", inPlace := ["internal/bytealg.Compare"], unfollowed := true, recurses := true, named := ["heartwood/sha.initialState", "heartwood/sha.roundConstants"], loops := true, apart := false, laid := [("heartwood/sha.roundConstants", laid_heartwood_sha_roundConstants), ("heartwood/sha.initialState", laid_heartwood_sha_initialState)] }
def CheckTakesSaid : Prop := checkTakesRow.holds Tryd.pinned (OpenSpec.ofChange checkTakesSpec)

/-- ITS FALSE NEIGHBOUR: 'it returns false'. Refute it at one input. -/
def checkTakesWrong : ChangeSpec := { name := "checkTakes", fn := fun _ => fun
  | [d1, d2, d3, d4] => { results := [.lit (.bool false)], args := [d1, d2, d3, d4] }
  | _ => none }
def CheckTakesWrongFalsely : Prop := checkTakesRow.holds Tryd.pinned (OpenSpec.ofChange checkTakesWrong)

/-- 'heartwoodlaw08.CheckOwn': WHATEVER THE INPUT: true; the input reads as it did. -/
def checkOwnSpec : ChangeSpec := { name := "checkOwn", fn := fun _ => fun
  | [d1, d2, d3] => { results := [.lit (.bool true)], args := [d1, d2, d3] }
  | _ => none }
def checkOwnRow : OpenClaim := { program := "ytlbiefddcimdgaadoor", sum := "5aefba3f889ce8476a0e269d486e08a49efede4803d469accfa9f409b60c3b9d", func := "heartwood/heartwoodlaw08.CheckOwn", spec := "checkOwn", inPlace := ["internal/bytealg.Compare"], unfollowed := true, recurses := true, named := ["heartwood/sha.initialState", "heartwood/sha.roundConstants"], loops := true, apart := false, laid := [("heartwood/sha.roundConstants", laid_heartwood_sha_roundConstants), ("heartwood/sha.initialState", laid_heartwood_sha_initialState)] }
def CheckOwnSaid : Prop := checkOwnRow.holds Tryd.pinned (OpenSpec.ofChange checkOwnSpec)

/-- ITS FALSE NEIGHBOUR: 'it returns false'. Refute it at one input. -/
def checkOwnWrong : ChangeSpec := { name := "checkOwn", fn := fun _ => fun
  | [d1, d2, d3] => { results := [.lit (.bool false)], args := [d1, d2, d3] }
  | _ => none }
def CheckOwnWrongFalsely : Prop := checkOwnRow.holds Tryd.pinned (OpenSpec.ofChange checkOwnWrong)

/-- 'heartwoodlaw08.CheckBytes': WHATEVER THE INPUT: true; the input reads as it did. -/
def checkBytesSpec : ChangeSpec := { name := "checkBytes", fn := fun _ => fun
  | [d1, d2, d3] => { results := [.lit (.bool true)], args := [d1, d2, d3] }
  | _ => none }
def checkBytesRow : OpenClaim := { program := "ytlbiefddcimdgaadoor", sum := "5aefba3f889ce8476a0e269d486e08a49efede4803d469accfa9f409b60c3b9d", func := "heartwood/heartwoodlaw08.CheckBytes", spec := "checkBytes", inPlace := ["internal/bytealg.Compare"], unfollowed := true, recurses := true, named := ["heartwood/sha.initialState", "heartwood/sha.roundConstants"], loops := true, apart := false, laid := [("heartwood/sha.roundConstants", laid_heartwood_sha_roundConstants), ("heartwood/sha.initialState", laid_heartwood_sha_initialState)] }
def CheckBytesSaid : Prop := checkBytesRow.holds Tryd.pinned (OpenSpec.ofChange checkBytesSpec)

/-- ITS FALSE NEIGHBOUR: 'it returns false'. Refute it at one input. -/
def checkBytesWrong : ChangeSpec := { name := "checkBytes", fn := fun _ => fun
  | [d1, d2, d3] => { results := [.lit (.bool false)], args := [d1, d2, d3] }
  | _ => none }
def CheckBytesWrongFalsely : Prop := checkBytesRow.holds Tryd.pinned (OpenSpec.ofChange checkBytesWrong)

/-- 'heartwoodlaw08.CheckHonest': WHATEVER THE INPUT: true; the input reads as it did. -/
def checkHonestSpec : ChangeSpec := { name := "checkHonest", fn := fun _ => fun
  | [d1, d2, d3] => { results := [.lit (.bool true)], args := [d1, d2, d3] }
  | _ => none }
def checkHonestRow : OpenClaim := { program := "ytlbiefddcimdgaadoor", sum := "5aefba3f889ce8476a0e269d486e08a49efede4803d469accfa9f409b60c3b9d", func := "heartwood/heartwoodlaw08.CheckHonest", spec := "checkHonest", inPlace := ["internal/bytealg.Compare"], unfollowed := true, recurses := true, named := ["heartwood/sha.initialState", "heartwood/sha.roundConstants"], apart := false, laid := [("heartwood/sha.roundConstants", laid_heartwood_sha_roundConstants), ("heartwood/sha.initialState", laid_heartwood_sha_initialState)] }
def CheckHonestSaid : Prop := checkHonestRow.holds Tryd.pinned (OpenSpec.ofChange checkHonestSpec)

/-- ITS FALSE NEIGHBOUR: 'it returns false'. Refute it at one input. -/
def checkHonestWrong : ChangeSpec := { name := "checkHonest", fn := fun _ => fun
  | [d1, d2, d3] => { results := [.lit (.bool false)], args := [d1, d2, d3] }
  | _ => none }
def CheckHonestWrongFalsely : Prop := checkHonestRow.holds Tryd.pinned (OpenSpec.ofChange checkHonestWrong)

/-- 'heartwoodlaw08.CheckLess': WHATEVER THE INPUT: true; the input reads as it did. -/
def checkLessSpec : ChangeSpec := { name := "checkLess", fn := fun _ => fun
  | [d1, d2, d3, d4, d5] => { results := [.lit (.bool true)], args := [d1, d2, d3, d4, d5] }
  | _ => none }
def checkLessRow : OpenClaim := { program := "ytlbiefddcimdgaadoor", sum := "5aefba3f889ce8476a0e269d486e08a49efede4803d469accfa9f409b60c3b9d", func := "heartwood/heartwoodlaw08.CheckLess", spec := "checkLess", inPlace := ["internal/bytealg.Compare"], unfollowed := true, recurses := true, named := ["heartwood/sha.initialState", "heartwood/sha.roundConstants"], loops := true, apart := false, laid := [("heartwood/sha.roundConstants", laid_heartwood_sha_roundConstants), ("heartwood/sha.initialState", laid_heartwood_sha_initialState)] }
def CheckLessSaid : Prop := checkLessRow.holds Tryd.pinned (OpenSpec.ofChange checkLessSpec)

/-- ITS FALSE NEIGHBOUR: 'it returns false'. Refute it at one input. -/
def checkLessWrong : ChangeSpec := { name := "checkLess", fn := fun _ => fun
  | [d1, d2, d3, d4, d5] => { results := [.lit (.bool false)], args := [d1, d2, d3, d4, d5] }
  | _ => none }
def CheckLessWrongFalsely : Prop := checkLessRow.holds Tryd.pinned (OpenSpec.ofChange checkLessWrong)

/-- 'heartwoodlaw08.CheckStays': WHATEVER THE INPUT: true; the input reads as it did. -/
def checkStaysSpec : ChangeSpec := { name := "checkStays", fn := fun _ => fun
  | [d1, d2] => { results := [.lit (.bool true)], args := [d1, d2] }
  | _ => none }
def checkStaysRow : OpenClaim := { program := "ytlbiefddcimdgaadoor", sum := "5aefba3f889ce8476a0e269d486e08a49efede4803d469accfa9f409b60c3b9d", func := "heartwood/heartwoodlaw08.CheckStays", spec := "checkStays", inPlace := ["internal/bytealg.Compare"], unfollowed := true, recurses := true, named := ["heartwood/sha.initialState", "heartwood/sha.roundConstants"], apart := false, laid := [("heartwood/sha.roundConstants", laid_heartwood_sha_roundConstants), ("heartwood/sha.initialState", laid_heartwood_sha_initialState)] }
def CheckStaysSaid : Prop := checkStaysRow.holds Tryd.pinned (OpenSpec.ofChange checkStaysSpec)

/-- ITS FALSE NEIGHBOUR: 'it returns false'. Refute it at one input. -/
def checkStaysWrong : ChangeSpec := { name := "checkStays", fn := fun _ => fun
  | [d1, d2] => { results := [.lit (.bool false)], args := [d1, d2] }
  | _ => none }
def CheckStaysWrongFalsely : Prop := checkStaysRow.holds Tryd.pinned (OpenSpec.ofChange checkStaysWrong)

/- THE SECOND FORM. 'bulk': how many values and letters a reading holds, each counted each time it is reached (what is shared counts as often as it is met; a slice's spare places count too). A statement '..UptoSaid' is the law's where the arguments, and the package variables that the reading takes, are together of bulk at most 1048576: NARROWER than '..Said'. Prove '..Said' where nothing that the law and all that it calls make is longer than what came in: it says more and counts as full. Else prove '..UptoSaid'. A law counts once. -/
mutual
def uptoBulk {H : Type} : DataW H → Nat
  | .lit (.string bytes) => bytes.length + 1
  | .lit _ => 1
  | .nil => 1
  | .ptr d => uptoBulk d + 1
  | .slice elems spare => uptoBulkAll elems + uptoBulkAll spare + 1
  | .agg parts => uptoBulkAll parts + 1
  | .iface _ d => uptoBulk d + 1
  | .map entries => uptoBulkEntries entries + 1
  | .held _ => 1
def uptoBulkAll {H : Type} : List (DataW H) → Nat
  | [] => 0
  | d :: r => uptoBulk d + uptoBulkAll r
def uptoBulkEntries {H : Type} : List (Lit × DataW H) → Nat
  | [] => 0
  | x :: r => uptoBulkEntry x + uptoBulkEntries r
def uptoBulkEntry {H : Type} : Lit × DataW H → Nat
  | (.string bytes, d) => bytes.length + uptoBulk d + 1
  | (_, d) => uptoBulk d + 1
 end
def uptoSmall : (H : Type) → List (DataW H) → Bool := fun _ ds => decide (uptoBulkAll ds ≤ 1048576)
def OpenSpec.upto (s : _root_.Go.ChangeSpec) : _root_.Go.OpenSpec := { _root_.Go.OpenSpec.ofChange s with cond := some uptoSmall }

/-- 'heartwoodlaw08.CheckTakes', WHERE WHAT IT READS IS OF BULK AT MOST 1048576: true; the input reads as it did. -/
def checkTakesUptoRow : OpenClaim := { program := "ytlbiefddcimdgaadoor", sum := "5aefba3f889ce8476a0e269d486e08a49efede4803d469accfa9f409b60c3b9d", func := "heartwood/heartwoodlaw08.CheckTakes", spec := "checkTakes", inPlace := ["internal/bytealg.Compare"], unfollowed := true, recurses := true, named := ["heartwood/sha.initialState", "heartwood/sha.roundConstants"], loops := true, apart := false, laid := [("heartwood/sha.roundConstants", laid_heartwood_sha_roundConstants), ("heartwood/sha.initialState", laid_heartwood_sha_initialState)], narrowed := true }
def CheckTakesUptoSaid : Prop := checkTakesUptoRow.holds Tryd.pinned (OpenSpec.upto checkTakesSpec)

/-- 'heartwoodlaw08.CheckOwn', WHERE WHAT IT READS IS OF BULK AT MOST 1048576: true; the input reads as it did. -/
def checkOwnUptoRow : OpenClaim := { program := "ytlbiefddcimdgaadoor", sum := "5aefba3f889ce8476a0e269d486e08a49efede4803d469accfa9f409b60c3b9d", func := "heartwood/heartwoodlaw08.CheckOwn", spec := "checkOwn", inPlace := ["internal/bytealg.Compare"], unfollowed := true, recurses := true, named := ["heartwood/sha.initialState", "heartwood/sha.roundConstants"], loops := true, apart := false, laid := [("heartwood/sha.roundConstants", laid_heartwood_sha_roundConstants), ("heartwood/sha.initialState", laid_heartwood_sha_initialState)], narrowed := true }
def CheckOwnUptoSaid : Prop := checkOwnUptoRow.holds Tryd.pinned (OpenSpec.upto checkOwnSpec)

/-- 'heartwoodlaw08.CheckBytes', WHERE WHAT IT READS IS OF BULK AT MOST 1048576: true; the input reads as it did. -/
def checkBytesUptoRow : OpenClaim := { program := "ytlbiefddcimdgaadoor", sum := "5aefba3f889ce8476a0e269d486e08a49efede4803d469accfa9f409b60c3b9d", func := "heartwood/heartwoodlaw08.CheckBytes", spec := "checkBytes", inPlace := ["internal/bytealg.Compare"], unfollowed := true, recurses := true, named := ["heartwood/sha.initialState", "heartwood/sha.roundConstants"], loops := true, apart := false, laid := [("heartwood/sha.roundConstants", laid_heartwood_sha_roundConstants), ("heartwood/sha.initialState", laid_heartwood_sha_initialState)], narrowed := true }
def CheckBytesUptoSaid : Prop := checkBytesUptoRow.holds Tryd.pinned (OpenSpec.upto checkBytesSpec)

/-- 'heartwoodlaw08.CheckHonest', WHERE WHAT IT READS IS OF BULK AT MOST 1048576: true; the input reads as it did. -/
def checkHonestUptoRow : OpenClaim := { program := "ytlbiefddcimdgaadoor", sum := "5aefba3f889ce8476a0e269d486e08a49efede4803d469accfa9f409b60c3b9d", func := "heartwood/heartwoodlaw08.CheckHonest", spec := "checkHonest", inPlace := ["internal/bytealg.Compare"], unfollowed := true, recurses := true, named := ["heartwood/sha.initialState", "heartwood/sha.roundConstants"], apart := false, laid := [("heartwood/sha.roundConstants", laid_heartwood_sha_roundConstants), ("heartwood/sha.initialState", laid_heartwood_sha_initialState)], narrowed := true }
def CheckHonestUptoSaid : Prop := checkHonestUptoRow.holds Tryd.pinned (OpenSpec.upto checkHonestSpec)

/-- 'heartwoodlaw08.CheckLess', WHERE WHAT IT READS IS OF BULK AT MOST 1048576: true; the input reads as it did. -/
def checkLessUptoRow : OpenClaim := { program := "ytlbiefddcimdgaadoor", sum := "5aefba3f889ce8476a0e269d486e08a49efede4803d469accfa9f409b60c3b9d", func := "heartwood/heartwoodlaw08.CheckLess", spec := "checkLess", inPlace := ["internal/bytealg.Compare"], unfollowed := true, recurses := true, named := ["heartwood/sha.initialState", "heartwood/sha.roundConstants"], loops := true, apart := false, laid := [("heartwood/sha.roundConstants", laid_heartwood_sha_roundConstants), ("heartwood/sha.initialState", laid_heartwood_sha_initialState)], narrowed := true }
def CheckLessUptoSaid : Prop := checkLessUptoRow.holds Tryd.pinned (OpenSpec.upto checkLessSpec)

/-- 'heartwoodlaw08.CheckStays', WHERE WHAT IT READS IS OF BULK AT MOST 1048576: true; the input reads as it did. -/
def checkStaysUptoRow : OpenClaim := { program := "ytlbiefddcimdgaadoor", sum := "5aefba3f889ce8476a0e269d486e08a49efede4803d469accfa9f409b60c3b9d", func := "heartwood/heartwoodlaw08.CheckStays", spec := "checkStays", inPlace := ["internal/bytealg.Compare"], unfollowed := true, recurses := true, named := ["heartwood/sha.initialState", "heartwood/sha.roundConstants"], apart := false, laid := [("heartwood/sha.roundConstants", laid_heartwood_sha_roundConstants), ("heartwood/sha.initialState", laid_heartwood_sha_initialState)], narrowed := true }
def CheckStaysUptoSaid : Prop := checkStaysUptoRow.holds Tryd.pinned (OpenSpec.upto checkStaysSpec)

end Rows
end Go.Proofs.YtlbiefddcimdgaaDoor
