/- Facts on a sum's bytes. -/
import Derived.Test.YtcplfpnaepdddaaDoorLib
import Derived.Test.YtcplfpnaepdddaaDoorSumC
namespace Go.Proofs.YtcplfpnaepdddaaDoor
open Go.RowKit
set_option linter.unusedVariables false

theorem bytesL_at (s : List Int) (i : Nat) (h : i < 4 * s.length) : (bytesL s).getD i 0 = s.getD (i / 4) 0 / 2 ^ (24 - 8 * (i % 4)) % 256 := by
  induction s generalizing i with
  | nil => simp at h
  | cons x r ih =>
    have hb : bytesL (x :: r) = be4 x ++ bytesL r := by simp [bytesL]
    rw [hb]
    by_cases hi : i < 4
    · have hd : i / 4 = 0 := by omega
      have hm : i % 4 = i := by omega
      rw [hd, hm]
      have : i = 0 ∨ i = 1 ∨ i = 2 ∨ i = 3 := by omega
      rcases this with rfl | rfl | rfl | rfl <;> simp [be4]
    · obtain ⟨j, rfl⟩ : ∃ j, i = 4 + j := ⟨i - 4, by omega⟩
      have ih2 := ih j (by simp at h; omega)
      rw [show (4 + j) / 4 = j / 4 + 1 by omega, show (4 + j) % 4 = j % 4 by omega]
      simp only [List.getD, List.getElem?_cons_succ] at ih2 ⊢
      rw [← ih2]
      rw [List.getElem?_append_right (by simp [be4])]
      simp [be4]

theorem sumL_length (bs : List Int) : (sumL bs).length = 32 := by
  unfold sumL
  rw [bytesL_length, stepsL_length rfl]
theorem sumL_bytes (bs : List Int) : Bytes8 (sumL bs) := bytesL_bytes _
end Go.Proofs.YtcplfpnaepdddaaDoor
