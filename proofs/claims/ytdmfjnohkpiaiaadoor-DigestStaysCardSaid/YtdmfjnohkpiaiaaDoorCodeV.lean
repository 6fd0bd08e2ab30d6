/- Errors that are Codes. -/
import Derived.Test.YtdmfjnohkpiaiaaDoorLib
import Derived.Test.YtdmfjnohkpiaiaaDoorProg
import Derived.Lib.IfaceNeq
namespace Go.Proofs.YtdmfjnohkpiaiaaDoor
open Go.RowKit
set_option linter.unusedVariables false

/-- An error that is one of api's Codes, itself; 0: none. -/
def codeV (k : Nat) : Value := if k = 0 then .nilIface else .iface 29 (.int .i64 k)
theorem compCode : (Tryd.prog.info? 29).map (·.comparable) = some true := by kernel_rfl
theorem eql_code (a b : Int) (w : World) : (binOp .eql 25 (.iface 29 (.int .i64 a)) (.iface 29 (.int .i64 b))).run Tryd.prog w = .ok (.bool (a == b)) w :=
  Lib.run_eql_iface_int w a b Tryd.underlying25 compCode Tryd.underlying29

theorem neq_code (a b : Int) (w : World) : (binOp .neq 25 (.iface 29 (.int .i64 a)) (.iface 29 (.int .i64 b))).run Tryd.prog w = .ok (.bool (a != b)) w :=
  Lib.run_neq_iface_int w a b Tryd.underlying25 compCode Tryd.underlying29
end Go.Proofs.YtdmfjnohkpiaiaaDoor
