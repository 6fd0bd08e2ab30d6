/- Arrays of eight words: what == and an index answer. -/
import Derived.Test.YtcplfpnaepdddaaDoorShaB
import Derived.ChangeKeysEq
namespace Go.Proofs.YtcplfpnaepdddaaDoor
open Go.RowKit
set_option linter.unusedVariables false

theorem infoU32 : (Tryd.prog.info? 39).map (fun i => (i.zero, i.size, i.bytes)) = some (some (.int .u32 0), 1, 4) := by kernel_rfl
theorem cellsU32 : Tryd.prog.cellsOf 39 = 1 := by kernel_rfl
theorem run_equal8 (a b c d e f g h : Int) (n : Nat) (w : World) : (Op.equalIn (n + 2) 40 (agg8 a b c d e f g h) (agg8 a b c d e f g h)).run Tryd.prog w = .ok true w := by
  obtain ⟨i0, hi0, hz0, hz1, hz2⟩ := info_parts infoU32
  have he := fun (x y : Int) (w : World) => run_equalIn_int w n 39 .u32 .u32 x y Tryd.underlying39
  unfold agg8
  rw [run_equalIn_array w (n + 1) _ _ Tryd.underlying40 hi0, cellsU32]
  simp [Op.eqItems, List.range, List.range.loop, part, sizeOf, typeInfo, hi0, hz1, he]
theorem run_eql_agg8 (a b c d e f g h : Int) (w : World) : (binOp .eql 40 (agg8 a b c d e f g h) (agg8 a b c d e f g h)).run Tryd.prog w = .ok (.bool true) w := by
  have h1 := run_equal8 a b c d e f g h 9998 w
  unfold agg8 at h1 ⊢
  rw [run_eql_struct, h1]
  simp
theorem run_index8 (a b c d e f g h : Int) (w : World) : (Instr.index 40 (agg8 a b c d e f g h) (.int .i64 0)).run Tryd.prog w = .ok (.int .u32 a) w := by
  unfold agg8
  kernel_rfl
theorem bcell {W w1 : World} (hb : Below W.heap.size W w1) : (∀ b o, b < W.heap.size → w1.cell? ⟨b, o, none⟩ = W.cell? ⟨b, o, none⟩) ∧ (∀ b o, b < W.heap.size → w1.frozen? ⟨b, o, none⟩ = W.frozen? ⟨b, o, none⟩) :=
  ⟨fun b o h => hb.cell (p := ⟨b, o, none⟩) h, fun b o h => hb.frozen (p := ⟨b, o, none⟩) h⟩
end Go.Proofs.YtcplfpnaepdddaaDoor
