/- The contract of the library's Len64, as the program calls it. -/
import Derived.Test.YtkcmohmfejmfoaaGreatDoorProg
import Derived.Lib.Strings
import Derived.Lib.Slices
import Derived.Lib.Small
import Derived.Lib.Walk
import Derived.Lib.BitFns
namespace Go.Proofs.YtkcmohmfejmfoaaGreatDoor
theorem len8_one {x : Int} (h0 : 0 < x) (h1 : x ≤ 255) : 1 ≤ Lib.len8 x ∧ Lib.len8 x ≤ 8 := by
  have e : ∀ n : Fin 256, 0 < n.val → 1 ≤ Lib.len8 (n.val : Int) ∧ Lib.len8 (n.val : Int) ≤ 8 := by decide +kernel
  have := e ⟨x.toNat, by omega⟩ (by simp; omega)
  rwa [show (((⟨x.toNat, by omega⟩ : Fin 256).val : Nat) : Int) = x by simp; omega] at this
/-- How many bytes ahead of the last one, the first byte, and what Len64 tells. -/
def LenAt (x r : Int) : Prop := ∃ (k : Nat) (l : Int), r = 8 * k + l ∧ 1 ≤ l ∧ l ≤ 8 ∧ 0 < x / 256 ^ k ∧ x / 256 ^ k ≤ 255 ∧ k ≤ 7
theorem lenAt_mk (k : Nat) (hk : k ≤ 7) (c x y r : Int) (hc : (256 : Int) ^ k = c) (hy : x / c = y) (h0 : 0 < y) (h1 : y ≤ 255) (hr : r = ((8 * k + ((Lib.len8 (y % 256) + 9223372036854775808) % 18446744073709551616 - 9223372036854775808) + 9223372036854775808) % 18446744073709551616 - 9223372036854775808)) : LenAt x r := by
  have e : y % 256 = y := by omega
  rw [e] at hr
  have hl := len8_one h0 h1
  refine ⟨k, Lib.len8 y, ?_, hl.1, hl.2, by rw [hc, hy]; exact h0, by rw [hc, hy]; exact h1, hk⟩
  rw [hr]
  generalize Lib.len8 y = l at *
  omega

set_option maxHeartbeats 4000000 in
set_option maxRecDepth 100000 in
theorem len64_raw (x : Int) (w : World) (h0 : 0 < x) (h1 : x ≤ 18446744073709551615) :
    Calls Tryz.prog 103 #[.int .u64 x] w fun e w' => (∃ r, e = .returned (.int .i64 r) ∧ LenAt x r) ∧ w' = w := by
  have d1 : x / 72057594037927936 = x / 4294967296 / 65536 / 256 := by omega
  have d2 : x / 281474976710656 = x / 4294967296 / 65536 := by omega
  have d3 : x / 1099511627776 = x / 4294967296 / 256 := by omega
  have d4 : x / 16777216 = x / 65536 / 256 := by omega
  have hp : 0 ≤ x := by omega
  go_enter Tryz.func103, Tryz.ntmps103
  go_wp2
  all_goals (go_ret; refine ⟨⟨_, rfl, ?_⟩, rfl⟩)
  · exact lenAt_mk 7 (by omega) 72057594037927936 x _ _ (by decide) d1 (by omega) (by omega) rfl
  · exact lenAt_mk 6 (by omega) 281474976710656 x _ _ (by decide) d2 (by omega) (by omega) rfl
  · exact lenAt_mk 5 (by omega) 1099511627776 x _ _ (by decide) d3 (by omega) (by omega) rfl
  · exact lenAt_mk 4 (by omega) 4294967296 x _ _ (by decide) rfl (by omega) (by omega) rfl
  · exact lenAt_mk 3 (by omega) 16777216 x _ _ (by decide) d4 (by omega) (by omega) rfl
  · exact lenAt_mk 2 (by omega) 65536 x _ _ (by decide) rfl (by omega) (by omega) rfl
  · exact lenAt_mk 1 (by omega) 256 x _ _ (by decide) rfl (by omega) (by omega) rfl
  · exact lenAt_mk 0 (by omega) 1 x x _ (by decide) (by omega) (by omega) (by omega) (by
      have e : x % 256 = x := by omega
      rw [e]
      have hl := len8_one h0 (by omega)
      generalize Lib.len8 x = l at *
      omega)
end Go.Proofs.YtkcmohmfejmfoaaGreatDoor
