/- Errors that are Codes. -/
import Derived.Test.YtcplfpnaepdddaaDoorLib
import Derived.Test.YtcplfpnaepdddaaDoorProg
import Derived.Lib.IfaceNeq
namespace Go.Proofs.YtcplfpnaepdddaaDoor
open Go.RowKit
set_option linter.unusedVariables false

/-- An error that is one of api's Codes, itself; 0: none. -/
def codeV (k : Nat) : Value := if k = 0 then .nilIface else .iface 35 (.int .i64 k)
theorem compCode : (Tryd.prog.info? 35).map (·.comparable) = some true := by kernel_rfl
theorem eql_code (a b : Int) (w : World) : (binOp .eql 29 (.iface 35 (.int .i64 a)) (.iface 35 (.int .i64 b))).run Tryd.prog w = .ok (.bool (a == b)) w :=
  Lib.run_eql_iface_int w a b Tryd.underlying29 compCode Tryd.underlying35

theorem neq_code (a b : Int) (w : World) : (binOp .neq 29 (.iface 35 (.int .i64 a)) (.iface 35 (.int .i64 b))).run Tryd.prog w = .ok (.bool (a != b)) w :=
  Lib.run_neq_iface_int w a b Tryd.underlying29 compCode Tryd.underlying35
end Go.Proofs.YtcplfpnaepdddaaDoor
