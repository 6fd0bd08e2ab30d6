/- The order of strings is the order of keys. No program is named here. -/
import Derived.Test.YtpjojhmdgeejmaaAvlMath
namespace Go.Proofs.Ytpjojhmdgeejmaa
open Go.RowKit
set_option linter.unusedVariables false

theorem bytesLess_lt : ∀ {xs ys : List Int}, Bytes8 xs → Bytes8 ys → Op.bytesLess (xs.map fun n => UInt8.ofNat n.toNat) (ys.map fun n => UInt8.ofNat n.toNat) = ltL xs ys
  | [], [], _, _ => rfl
  | _ :: _, [], _, _ => rfl
  | [], _ :: _, _, _ => rfl
  | x :: xs, y :: ys, hx, hy => by
    have h1 := hx x (by simp)
    have h2 := hy y (by simp)
    have ih := bytesLess_lt (xs := xs) (ys := ys) (fun z hz => hx z (by simp [hz])) (fun z hz => hy z (by simp [hz]))
    rw [List.map_cons, List.map_cons, Op.bytesLess, ltL, ih]
    have e1 : decide (UInt8.ofNat x.toNat < UInt8.ofNat y.toNat) = decide (x < y) := by
      rw [Bool.eq_iff_iff, decide_eq_true_eq, decide_eq_true_eq, UInt8.lt_iff_toNat_lt]
      simp only [UInt8.toNat_ofNat']
      omega
    have e2 : (UInt8.ofNat x.toNat == UInt8.ofNat y.toNat) = (x == y) := by
      rw [Bool.eq_iff_iff, beq_iff_eq, beq_iff_eq]
      constructor
      · intro h
        have h3 := congrArg UInt8.toNat h
        simp only [UInt8.toNat_ofNat'] at h3
        omega
      · rintro rfl
        rfl
    rw [e1, e2]
theorem str_lt {xs ys : List Int} (hx : Bytes8 xs) (hy : Bytes8 ys) : Op.bytesLess (strOfNums xs).toList (strOfNums ys).toList = ltL xs ys := by
  unfold strOfNums
  rw [ByteArray.toList_mk, ByteArray.toList_mk]
  exact bytesLess_lt hx hy
theorem str_eq {xs ys : List Int} (hx : Bytes8 xs) (hy : Bytes8 ys) : ((strOfNums xs).toList == (strOfNums ys).toList) = (xs == ys) := by
  by_cases h : xs = ys
  · subst h
    simp
  · rw [str_ne hx hy h, beq_eq_false_iff_ne.2 h]
end Go.Proofs.Ytpjojhmdgeejmaa
