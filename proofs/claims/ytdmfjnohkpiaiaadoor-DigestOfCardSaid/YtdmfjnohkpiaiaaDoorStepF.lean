/- Facts on states and tables that the laws ask. -/
import Derived.Test.YtdmfjnohkpiaiaaDoorRefStep
import Derived.Test.YtdmfjnohkpiaiaaDoorStepC
import Derived.Test.YtdmfjnohkpiaiaaDoorShaC
import Derived.Test.YtdmfjnohkpiaiaaDoorLib
import Derived.Lib.IfaceEq
import Derived.Deep.RegionWith
import Derived.Deep.DeepCutAuto
namespace Go.Proofs.YtdmfjnohkpiaiaaDoor
open Go.RowKit
set_option linter.unusedVariables false

theorem compCodeS : (Tryd.prog.info? 29).map (·.comparable) = some true := by kernel_rfl
theorem eql_codeS (a b : Int) (w : World) : (binOp .eql 25 (.iface 29 (.int .i64 a)) (.iface 29 (.int .i64 b))).run Tryd.prog w = .ok (.bool (a == b)) w :=
  Lib.run_eql_iface_int w a b Tryd.underlying25 compCodeS Tryd.underlying29
theorem run_neq_agg8 (a b c d e f g h : Int) (w : World) : (binOp .neq 32 (agg8 a b c d e f g h) (agg8 a b c d e f g h)).run Tryd.prog w = .ok (.bool false) w := by
  have h1 := run_equal8 a b c d e f g h 9998 w
  unfold agg8 at h1 ⊢
  rw [run_neq_struct, h1]
  simp
theorem tabZero (w : World) : TB (w.alloc (.cells #[.slice none 0 0, .int .u32 0, .int .u32 0, .int .u32 0, .int .u32 0, .int .u32 0, .int .u32 0, .int .u32 0, .int .u32 0] 34)) w.heap.size (.slice none 0 0) [0, 0, 0, 0, 0, 0, 0, 0] := heap_alloc_new w _
theorem tb_cells {w : World} {g : Nat} {v : Value} (h : TB w g v hTab) : w.cell? ⟨g, 1, none⟩ = some (.int .u32 1779033703) ∧ w.cell? ⟨g, 2, none⟩ = some (.int .u32 3144134277) ∧ w.cell? ⟨g, 3, none⟩ = some (.int .u32 1013904242) ∧ w.cell? ⟨g, 4, none⟩ = some (.int .u32 2773480762) ∧ w.cell? ⟨g, 5, none⟩ = some (.int .u32 1359893119) ∧ w.cell? ⟨g, 6, none⟩ = some (.int .u32 2600822924) ∧ w.cell? ⟨g, 7, none⟩ = some (.int .u32 528734635) ∧ w.cell? ⟨g, 8, none⟩ = some (.int .u32 1541459225) :=
  ⟨h.cellH 0 (by decide), h.cellH 1 (by decide), h.cellH 2 (by decide), h.cellH 3 (by decide), h.cellH 4 (by decide), h.cellH 5 (by decide), h.cellH 6 (by decide), h.cellH 7 (by decide)⟩
theorem first_eq (w : World) : (binOp .neq 32 (.agg #[.int .u32 1779033703, .int .u32 3144134277, .int .u32 1013904242, .int .u32 2773480762, .int .u32 1359893119, .int .u32 2600822924, .int .u32 528734635, .int .u32 1541459225]) (.agg #[.int .u32 1779033703, .int .u32 3144134277, .int .u32 1013904242, .int .u32 2773480762, .int .u32 1359893119, .int .u32 2600822924, .int .u32 528734635, .int .u32 1541459225])).run Tryd.prog w = .ok (.bool false) w := run_neq_agg8 1779033703 3144134277 1013904242 2773480762 1359893119 2600822924 528734635 1541459225 w

end Go.Proofs.YtdmfjnohkpiaiaaDoor
