/- Plain facts on the tail: its bytes as a list. No program is named here. -/
import Derived.WalkKit
namespace Go.Proofs.YtcplfpnaepdddaaDoor
set_option linter.unusedVariables false

/-- zs, the first k of n bytes of x, the greatest first, laid at the place off. -/
def putB (zs : List Int) (off n : Nat) (x : Int) : Nat → List Int
  | 0 => zs
  | k + 1 => (putB zs off n x k).set (off + k) (x / 2 ^ (8 * (n - 1 - k)) % 256)
theorem putB_length (zs : List Int) (off n : Nat) (x : Int) : ∀ k, (putB zs off n x k).length = zs.length
  | 0 => rfl
  | k + 1 => by simp [putB, putB_length zs off n x k]
theorem putB_append (pre l : List Int) (n : Nat) (x : Int) : ∀ k, putB (pre ++ l) pre.length n x k = pre ++ putB l 0 n x k
  | 0 => rfl
  | k + 1 => by
    simp only [putB]
    rw [putB_append pre l n x k, List.set_append_right _ _ (by omega)]
    simp
def nils (n : Nat) : Nat := (119 - n % 64) % 64
def be8 (x : Int) : List Int := [x / 72057594037927936 % 256, x / 281474976710656 % 256, x / 1099511627776 % 256, x / 4294967296 % 256, x / 16777216 % 256, x / 65536 % 256, x / 256 % 256, x % 256]
/-- What stands behind n bytes. -/
def tailL (n : Nat) : List Int := 128 :: (List.replicate (nils n) 0 ++ be8 (8 * n))
theorem tailL_length (n : Nat) : (tailL n).length = nils n + 9 := by simp [tailL, be8]
theorem rep_snoc (j : Nat) : (128 :: List.replicate j (0 : Int)).map (Value.int .u8) ++ [.int .u8 0] = (128 :: List.replicate (j + 1) (0 : Int)).map (Value.int .u8) := by
  simp [List.replicate_succ']
/-- The bytes of x, of which the last 8 - m are laid. -/
def bitsAt (x : Int) (m : Nat) : List Int := List.replicate m 0 ++ (be8 x).drop m
theorem bitsAt_length (x : Int) (m : Nat) (h : m ≤ 8) : (bitsAt x m).length = 8 := by simp [bitsAt, be8]; omega
theorem bitsAt_step (x : Int) (m : Nat) (h : m < 8) : (bitsAt x (m + 1)).set m (x / 256 ^ (7 - m) % 256) = bitsAt x m := by
  have : m = 0 ∨ m = 1 ∨ m = 2 ∨ m = 3 ∨ m = 4 ∨ m = 5 ∨ m = 6 ∨ m = 7 := by omega
  rcases this with rfl | rfl | rfl | rfl | rfl | rfl | rfl | rfl <;> simp [bitsAt, be8, List.replicate]
theorem pow_step (x : Int) (m : Nat) (h : m < 8) : x / 256 ^ (7 - m) / 256 = x / 256 ^ (8 - m) := by
  rw [Int.ediv_ediv_of_nonneg (Int.pow_nonneg (by omega)), ← Int.pow_succ, show (7 - m).succ = 8 - m by omega]
theorem nils_lt (n : Nat) : nils n < 64 := by unfold nils; omega
theorem set_first (z : Nat) : (List.replicate (z + 9) (0 : Int)).set 0 128 = 128 :: (List.replicate z 0 ++ List.replicate 8 0) := by
  rw [show z + 9 = (z + 8) + 1 from rfl, List.replicate_succ, List.set_cons_zero, List.replicate_append_replicate]
theorem putB_tail (n : Nat) : putB (128 :: (List.replicate (nils n) 0 ++ List.replicate 8 0)) (1 + nils n) 8 (8 * n) 8 = tailL n := by
  have h := putB_append (128 :: List.replicate (nils n) 0) (List.replicate 8 0) 8 (8 * n) 8
  simp only [List.length_cons, List.length_replicate, List.cons_append] at h
  rw [Nat.add_comm 1, h]
  simp [tailL, be8, putB, List.replicate]
end Go.Proofs.YtcplfpnaepdddaaDoor
