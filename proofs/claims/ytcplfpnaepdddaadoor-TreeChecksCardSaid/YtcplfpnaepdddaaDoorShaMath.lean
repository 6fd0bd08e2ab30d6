/- Plain facts on 32 bit words: turning to the right, the two sums of a round. No program is named here. -/
import Derived.WalkKit
namespace Go.Proofs.YtcplfpnaepdddaaDoor
set_option linter.unusedVariables false

/-- x turned to the right by k, 1 ≤ k ≤ 31. -/
def rotr (x k : Int) : Int := bits .or .u32 (x / 2 ^ k.toNat) (x * 2 ^ (32 - k).toNat % 4294967296)
def rot3 (x i j k : Int) : Int := bits .xor .u32 (bits .xor .u32 (rotr x i) (rotr x j)) (rotr x k)
def lowS (e f g h k v : Int) : Int :=
  (h + rot3 e 6 11 25 + bits .xor .u32 (bits .and .u32 e f) (bits .and .u32 (bits .xor .u32 IntKind.u32.max e) g) + k + v) % 4294967296
def upS (a b c : Int) : Int :=
  (rot3 a 2 13 22 + bits .xor .u32 (bits .xor .u32 (bits .and .u32 a b) (bits .and .u32 a c)) (bits .and .u32 b c)) % 4294967296

/-- The eight words as the model holds an array of them. -/
def agg8 (a b c d e f g h : Int) : Value := .agg #[.int .u32 a, .int .u32 b, .int .u32 c, .int .u32 d, .int .u32 e, .int .u32 f, .int .u32 g, .int .u32 h]
/-- The words behind a round. -/
def rndV (a b c d e f g h k v : Int) : Value :=
  agg8 ((lowS e f g h k v + upS a b c) % 4294967296) a b c ((d + lowS e f g h k v) % 4294967296) e f g

theorem bits_bd (op : BinOp) (a b : Int) : 0 ≤ bits op .u32 a b ∧ bits op .u32 a b ≤ 4294967295 := by
  unfold bits
  dsimp only
  rw [IntKind.wrap_u32']
  omega
theorem bits_or_comm (a b : Int) : bits .or .u32 a b = bits .or .u32 b a := by
  simp [bits, BitVec.or_comm]
theorem mask_neg (k : Int) (h1 : 1 ≤ k) (h2 : k ≤ 31) : bits .and .u64 (IntKind.u64.wrap (-k)) 31 = 32 - k := by
  rw [IntKind.wrap_u64, u64_and _ _ (by omega) (by omega) (by omega) (by omega)]
  rw [show (31 : Int).toNat = 31 from rfl, nat_mask5]
  omega
theorem rotr_other (x k : Int) : bits .or .u32 (x * 2 ^ (32 - k).toNat % 4294967296) (x / 2 ^ (32 - (32 - k)).toNat) = rotr x k := by
  rw [bits_or_comm, show (32 - (32 - k)) = k by omega]
  rfl
theorem rotr_bd (x k : Int) : 0 ≤ rotr x k ∧ rotr x k ≤ 4294967295 := bits_bd _ _ _
theorem rot3_bd (x i j k : Int) : 0 ≤ rot3 x i j k ∧ rot3 x i j k ≤ 4294967295 := bits_bd _ _ _
theorem lowS_bd (e f g h k v : Int) : 0 ≤ lowS e f g h k v ∧ lowS e f g h k v ≤ 4294967295 := by unfold lowS; omega
theorem upS_bd (a b c : Int) : 0 ≤ upS a b c ∧ upS a b c ≤ 4294967295 := by unfold upS; omega
theorem ret_int {k : IntKind} {a b : Int} (h : a = b) : Ending.returned (.int k a) = .returned (.int k b) := by rw [h]
end Go.Proofs.YtcplfpnaepdddaaDoor
