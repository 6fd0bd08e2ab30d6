/- Errors that are Codes. -/
import Derived.Test.YtdmfjnohkpiaiaaLib
import Derived.Test.YtdmfjnohkpiaiaaProg
import Derived.Lib.IfaceNeq
namespace Go.Proofs.Ytdmfjnohkpiaiaa
open Go.RowKit
set_option linter.unusedVariables false

/-- An error that is one of api's Codes, itself; 0: none. -/
def codeV (k : Nat) : Value := if k = 0 then .nilIface else .iface 31 (.int .i64 k)
theorem compCode : (Try.prog.info? 31).map (·.comparable) = some true := by kernel_rfl
theorem eql_code (a b : Int) (w : World) : (binOp .eql 26 (.iface 31 (.int .i64 a)) (.iface 31 (.int .i64 b))).run Try.prog w = .ok (.bool (a == b)) w :=
  Lib.run_eql_iface_int w a b Try.underlying26 compCode Try.underlying31

theorem neq_code (a b : Int) (w : World) : (binOp .neq 26 (.iface 31 (.int .i64 a)) (.iface 31 (.int .i64 b))).run Try.prog w = .ok (.bool (a != b)) w :=
  Lib.run_neq_iface_int w a b Try.underlying26 compCode Try.underlying31
end Go.Proofs.Ytdmfjnohkpiaiaa
