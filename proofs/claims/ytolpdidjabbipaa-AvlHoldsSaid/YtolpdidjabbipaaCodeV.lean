/- Errors that are Codes. -/
import Derived.Test.YtolpdidjabbipaaLib
import Derived.Test.YtolpdidjabbipaaProg
import Derived.Lib.IfaceNeq
namespace Go.Proofs.Ytolpdidjabbipaa
open Go.RowKit
set_option linter.unusedVariables false

/-- An error that is one of api's Codes, itself; 0: none. -/
def codeV (k : Nat) : Value := if k = 0 then .nilIface else .iface 59 (.int .i64 k)
theorem compCode : (Try.prog.info? 59).map (·.comparable) = some true := by kernel_rfl
theorem eql_code (a b : Int) (w : World) : (binOp .eql 29 (.iface 59 (.int .i64 a)) (.iface 59 (.int .i64 b))).run Try.prog w = .ok (.bool (a == b)) w :=
  Lib.run_eql_iface_int w a b Try.underlying29 compCode Try.underlying59

theorem neq_code (a b : Int) (w : World) : (binOp .neq 29 (.iface 59 (.int .i64 a)) (.iface 59 (.int .i64 b))).run Try.prog w = .ok (.bool (a != b)) w :=
  Lib.run_neq_iface_int w a b Try.underlying29 compCode Try.underlying59
end Go.Proofs.Ytolpdidjabbipaa
