/- Errors that are Codes. -/
import Derived.Test.YtpjojhmdgeejmaaLib
import Derived.Test.YtpjojhmdgeejmaaProg
import Derived.Lib.IfaceNeq
namespace Go.Proofs.Ytpjojhmdgeejmaa
open Go.RowKit
set_option linter.unusedVariables false

/-- An error that is one of api's Codes, itself; 0: none. -/
def codeV (k : Nat) : Value := if k = 0 then .nilIface else .iface 41 (.int .i64 k)
theorem compCode : (Try.prog.info? 41).map (·.comparable) = some true := by kernel_rfl
theorem eql_code (a b : Int) (w : World) : (binOp .eql 37 (.iface 41 (.int .i64 a)) (.iface 41 (.int .i64 b))).run Try.prog w = .ok (.bool (a == b)) w :=
  Lib.run_eql_iface_int w a b Try.underlying37 compCode Try.underlying41

theorem neq_code (a b : Int) (w : World) : (binOp .neq 37 (.iface 41 (.int .i64 a)) (.iface 41 (.int .i64 b))).run Try.prog w = .ok (.bool (a != b)) w :=
  Lib.run_neq_iface_int w a b Try.underlying37 compCode Try.underlying41
end Go.Proofs.Ytpjojhmdgeejmaa
