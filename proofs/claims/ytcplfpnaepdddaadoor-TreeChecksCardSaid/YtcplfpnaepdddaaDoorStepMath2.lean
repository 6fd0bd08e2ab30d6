/- Plain facts on steps one behind the other. No program is named here. -/
import Derived.Test.YtcplfpnaepdddaaDoorStepMath
namespace Go.Proofs.YtcplfpnaepdddaaDoor
set_option linter.unusedVariables false

theorem stepsL_head (s x y : List Int) : ∀ k, 64 * k ≤ x.length → stepsL s (x ++ y) k = stepsL s x k
  | 0, _ => rfl
  | k + 1, h => by
    simp only [stepsL]
    rw [stepsL_head s x y k (by omega)]
    congr 1
    rw [List.drop_append_of_le_length (by omega), List.take_append_of_le_length (by simp; omega)]
theorem stepsL_append (s x y : List Int) (m : Nat) (h : x.length = 64 * m) : ∀ q, stepsL s (x ++ y) (m + q) = stepsL (stepsL s x m) y q
  | 0 => stepsL_head s x y m (by omega)
  | q + 1 => by
    show stepL (stepsL s (x ++ y) (m + q)) (((x ++ y).drop (64 * (m + q))).take 64) = stepL (stepsL (stepsL s x m) y q) ((y.drop (64 * q)).take 64)
    rw [stepsL_append s x y m h q]
    congr 2
    rw [List.drop_append, List.drop_eq_nil_of_le (by omega), List.nil_append, h]
    congr 1
    omega
theorem whole_blocks (n m r : Nat) (hr : r < 64) (h : n = 64 * m + r) : ∃ q, 1 ≤ q ∧ q ≤ 2 ∧ r + (nils n + 9) = 64 * q ∧ (n + nils n + 9) / 64 = m + q := by
  subst h
  unfold nils
  by_cases h : r ≤ 55
  · refine ⟨1, by omega, by omega, ?_, ?_⟩ <;> omega
  · refine ⟨2, by omega, by omega, ?_, ?_⟩ <;> omega
theorem sumL_parts (bs : List Int) (m q r : Nat) (hr : r < 64) (h : bs.length = 64 * m + r) (hq : (bs.length + nils bs.length + 9) / 64 = m + q) :
    sumL bs = bytesL (stepsL (stepsL hTab (bs.take (64 * m)) m) (bs.drop (64 * m) ++ tailL bs.length) q) := by
  unfold sumL
  rw [hq, ← stepsL_append hTab (bs.take (64 * m)) (bs.drop (64 * m) ++ tailL bs.length) m (by simp; omega) q, ← List.append_assoc, List.take_append_drop]
theorem be8_bytes (x : Int) : Bytes8 (be8 x) := by
  intro z hz
  simp only [be8, List.mem_cons, List.not_mem_nil, or_false] at hz
  omega
theorem tailL_bytes (n : Nat) : Bytes8 (tailL n) := by
  intro z hz
  simp only [tailL, List.mem_cons, List.mem_append] at hz
  rcases hz with rfl | hz | hz
  · omega
  · rw [List.mem_replicate] at hz; omega
  · exact be8_bytes _ z hz
theorem bytesL_bytes (s : List Int) : Bytes8 (bytesL s) := by
  intro z hz
  simp only [bytesL, List.mem_flatMap] at hz
  obtain ⟨x, _, hx⟩ := hz
  simp only [be4, List.mem_cons, List.not_mem_nil, or_false] at hx
  omega
theorem app_bytes {x y : List Int} (hx : Bytes8 x) (hy : Bytes8 y) : Bytes8 (x ++ y) := by
  intro z hz
  rcases List.mem_append.1 hz with h | h
  · exact hx z h
  · exact hy z h
end Go.Proofs.YtcplfpnaepdddaaDoor
