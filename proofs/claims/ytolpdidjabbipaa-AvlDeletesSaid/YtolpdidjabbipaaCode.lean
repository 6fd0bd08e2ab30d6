/- What the statements ask of errors: which Code one is. -/
import Derived.Test.YtolpdidjabbipaaCodeV
namespace Go.Proofs.Ytolpdidjabbipaa
open Go.RowKit
set_option linter.unusedVariables false

set_option maxRecDepth 100000 in
set_option maxHeartbeats 1000000 in
theorem code_any (k : Nat) (hk : k ≤ 13) (w : World) :
    Calls Try.prog 14 #[codeV k] w (fun e w' => e = .returned (.int .i64 k) ∧ ∃ m, w' = w.drewN m) := by
  have hq := eql_code
  unfold codeV
  go_enter Try.func14, Try.ntmps14
  by_cases h0 : k = 0
  · subst h0
    rw [if_pos rfl]
    go_wp2_with fail
    go_ret
    exact ⟨rfl, 0, rfl⟩
  · rw [if_neg h0]
    go_wp2_with fail
    go_loopw [3] (fun c wx => ∃ j : Nat, 1 ≤ j ∧ j ≤ k ∧ c = .int .i64 j ∧ wx = w) (fun c _ => 14 - (intOf c).toNat)
    case atStart => exact ⟨1, by omega, by omega, rfl, rfl⟩
    case round =>
      obtain ⟨j, hj1, hjk, rfl, rfl⟩ := hrel
      have h13 : (j : Int) ≤ 13 := by omega
      by_cases he : j = k
      · subst he
        have hb : ((j : Int) == (j : Int)) = true := by simp
        go_wp2_with fail
        go_ret
        exact ⟨rfl, 0, rfl⟩
      · have hb : ((k : Int) == (j : Int)) = false := by simp; omega
        go_wp2_with fail
        exact ⟨⟨j + 1, by omega, by omega, by go_num, trivial⟩, by simp [intOf]; omega⟩
end Go.Proofs.Ytolpdidjabbipaa
