/- The contract of the document's root. -/
import Derived.Test.YtdmfjnohkpiaiaaDoorMadeB
namespace Go.Proofs.YtdmfjnohkpiaiaaDoor
open Go.RowKit
set_option linter.unusedVariables false

theorem below_any (y p : Int) (cube : Bool) (w : World) (h0 : 0 ≤ y) (h1 : y ≤ 68719476735) (hp : 0 ≤ p) (hp1 : p ≤ 1000) :
    Calls Tryd.prog 23 #[.int .u64 y, .int .u64 p, .bool cube] w (BelowPost w (belowL y p cube)) := by
  cases cube
  · exact below_sq y p w h0 h1 hp hp1
  · exact below_cube y p w h0 h1 hp hp1

/-- The bit of the n-th round; nought behind the last. -/
def bitAt (n : Nat) : Int := if n < 36 then 2 ^ (35 - n) else 0
theorem bitAt_half (n : Nat) (h : n < 36) : bitAt n / 2 = bitAt (n + 1) := by
  unfold bitAt
  rw [if_pos h]
  by_cases h2 : n + 1 < 36
  · rw [if_pos h2, show 35 - n = (35 - (n + 1)) + 1 by omega, Int.pow_succ]
    omega
  · have : n = 35 := by omega
    subst this
    rfl
theorem bitAt_bd (n : Nat) : 0 ≤ bitAt n ∧ bitAt n ≤ 34359738368 := by
  unfold bitAt
  split
  · have h : n = 0 ∨ n = 1 ∨ n = 2 ∨ n = 3 ∨ n = 4 ∨ n = 5 ∨ n = 6 ∨ n = 7 ∨ n = 8 ∨ n = 9 ∨ n = 10 ∨ n = 11 ∨ n = 12 ∨ n = 13 ∨ n = 14 ∨ n = 15 ∨ n = 16 ∨ n = 17 ∨ n = 18 ∨ n = 19 ∨ n = 20 ∨ n = 21 ∨ n = 22 ∨ n = 23 ∨ n = 24 ∨ n = 25 ∨ n = 26 ∨ n = 27 ∨ n = 28 ∨ n = 29 ∨ n = 30 ∨ n = 31 ∨ n = 32 ∨ n = 33 ∨ n = 34 ∨ n = 35 := by omega
    rcases h with rfl | rfl | rfl | rfl | rfl | rfl | rfl | rfl | rfl | rfl | rfl | rfl | rfl | rfl | rfl | rfl | rfl | rfl | rfl | rfl | rfl | rfl | rfl | rfl | rfl | rfl | rfl | rfl | rfl | rfl | rfl | rfl | rfl | rfl | rfl | rfl <;> decide
  · omega
theorem bitAt_pos (n : Nat) (h : n < 36) : 0 < bitAt n := by
  unfold bitAt
  rw [if_pos h]
  exact Int.pow_pos (by omega)
theorem rootAt_bd (p : Int) (cube : Bool) : ∀ n, n ≤ 36 → 0 ≤ rootAt p cube n ∧ rootAt p cube n + 2 ^ (36 - n) ≤ 68719476736
  | 0, _ => by simp [rootAt]
  | n + 1, h => by
    have ih := rootAt_bd p cube n (by omega)
    have hp : (2 : Int) ^ (36 - n) = 2 * 2 ^ (35 - n) := by rw [show 36 - n = (35 - n) + 1 by omega, Int.pow_succ]; omega
    have h0 : (0 : Int) < 2 ^ (35 - n) := Int.pow_pos (by omega)
    rw [hp] at ih
    rw [show 36 - (n + 1) = 35 - n by omega]
    simp only [rootAt]
    split <;> omega
theorem rootAt_next (p : Int) (cube : Bool) (n : Nat) (h : n < 36) : rootAt p cube (n + 1) = if belowL (rootAt p cube n + bitAt n) p cube then rootAt p cube n + bitAt n else rootAt p cube n := by
  have : bitAt n = 2 ^ (35 - n) := by unfold bitAt; rw [if_pos h]
  rw [this]
  rfl
theorem rootAt_y (p : Int) (cube : Bool) (n : Nat) (h : n < 36) : 0 ≤ rootAt p cube n + bitAt n ∧ rootAt p cube n + bitAt n ≤ 68719476735 := by
  have h1 := rootAt_bd p cube n (by omega)
  have hp : (2 : Int) ^ (36 - n) = 2 * 2 ^ (35 - n) := by rw [show 36 - n = (35 - n) + 1 by omega, Int.pow_succ]; omega
  have h0 : (0 : Int) < 2 ^ (35 - n) := Int.pow_pos (by omega)
  have : bitAt n = 2 ^ (35 - n) := by unfold bitAt; rw [if_pos h]
  omega

def RootPost (w : World) (v : Int) (e : Ending) (w' : World) : Prop := e = .returned (.int .u32 v) ∧ Below w.heap.size w w'
set_option maxRecDepth 100000 in
set_option maxHeartbeats 2000000 in
theorem root_any (p : Int) (cube : Bool) (w : World) (hp : 0 ≤ p) (hp1 : p ≤ 1000) :
    Calls Tryd.prog 16 #[.int .u64 p, .bool cube] w (RootPost w (rootL p cube)) := by
  go_enter Tryd.func16, Tryd.ntmps16
  go_wp2_with fail
  go_loopw [5, 6] (fun x b wx => ∃ n : Nat, n ≤ 36 ∧ x = .int .u64 (rootAt p cube n) ∧ b = .int .u64 (bitAt n) ∧ Below w.heap.size w wx) (fun _ b _ => (intOf b).toNat)
  case atStart => exact ⟨0, by omega, rfl, rfl, Below.refl _ _⟩
  case round =>
    obtain ⟨n, hn, rfl, rfl, hb⟩ := hrel
    have HB := Lib.hid hb
    clear hb
    have r1 := rootAt_bd p cube n hn
    have r1' : rootAt p cube n ≤ 68719476736 := by
      have : (0 : Int) < 2 ^ (36 - n) := Int.pow_pos (by omega)
      omega
    have r0 := r1.1
    clear r1
    by_cases hlt : n < 36
    · have ry := rootAt_y p cube n hlt
      have hpos := bitAt_pos n hlt
      have hhalf := bitAt_half n hlt
      have hnext := rootAt_next p cube n hlt
      have bb := bitAt_bd n
      have bb2 := bitAt_bd (n + 1)
      have hc : ∀ W, Calls Tryd.prog 23 #[.int .u64 (rootAt p cube n + bitAt n), .int .u64 p, .bool cube] W (BelowPost W (belowL (rootAt p cube n + bitAt n) p cube)) := fun W => below_any _ p cube W ry.1 ry.2 hp hp1
      generalize belowL (rootAt p cube n + bitAt n) p cube = v at *
      generalize hbn : bitAt n = bt at *
      generalize hrn : rootAt p cube n = rt at *
      have HC := Lib.hid hc
      have HH := Lib.hid hhalf
      have HN := Lib.hid hnext
      clear hc hhalf hnext hbn hrn
      cases v
      · go_wp2_with (first
          | (go_at_call 23
             (with_reducible refine (HC.out _).mono ?_)
             rintro _ w1 ⟨rfl, hb1⟩
             have HB1 := Lib.hid hb1
             clear hb1))
        go_roundw
        case rel => exact ⟨n + 1, by omega, by rw [HN.out]; rfl, by rw [HH.out], HB.out.trans (HB1.out.mono HB.out.size)⟩
        case measure => simp [intOf]; omega
      · go_wp2_with (first
          | (go_at_call 23
             (with_reducible refine (HC.out _).mono ?_)
             rintro _ w1 ⟨rfl, hb1⟩
             have HB1 := Lib.hid hb1
             clear hb1))
        go_roundw
        case rel => exact ⟨n + 1, by omega, by rw [HN.out]; rfl, by rw [HH.out], HB.out.trans (HB1.out.mono HB.out.size)⟩
        case measure => simp [intOf]; omega
    · obtain rfl : n = 36 := by omega
      have hz : bitAt 36 = 0 := rfl
      rw [hz]
      have hfin : rootL p cube = rootAt p cube 36 % 4294967296 := rfl
      generalize rootAt p cube 36 = rt at *
      have HFIN := Lib.hid hfin
      clear hz hfin
      go_wp2_with fail
      go_ret
      exact ⟨by rw [HFIN.out]; rfl, HB.out⟩
end Go.Proofs.YtdmfjnohkpiaiaaDoor
