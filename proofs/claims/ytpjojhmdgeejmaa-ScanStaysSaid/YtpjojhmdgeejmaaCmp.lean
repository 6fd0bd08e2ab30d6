/- The contract of bytes.Compare: the order of byte strings. -/
import Derived.Test.YtpjojhmdgeejmaaStrLt
import Derived.Test.YtpjojhmdgeejmaaProg
import Derived.Lib.Bytealg
import Derived.Lib.BytesEntry
namespace Go.Proofs.Ytpjojhmdgeejmaa
open Go.RowKit
set_option linter.unusedVariables false

/-- -1, 0 or 1, by the order of two byte strings. -/
def ordL (xs ys : List Int) : Int := if ltL xs ys then -1 else if ltL ys xs then 1 else 0
theorem ordL_lt {xs ys : List Int} (h : ltL xs ys = true) : ordL xs ys = -1 := by unfold ordL; rw [if_pos h]
theorem ordL_gt {xs ys : List Int} (h : ltL ys xs = true) : ordL xs ys = 1 := by unfold ordL; rw [if_neg (by rw [ltL_asymm h]; simp), if_pos h]
theorem ordL_eq (xs : List Int) : ordL xs xs = 0 := by unfold ordL; rw [if_neg (by rw [ltL_irr]; simp), if_neg (by rw [ltL_irr]; simp)]
theorem cmp_ord : ∀ {xs ys : List Int}, Bytes8 xs → Bytes8 ys → Lib.compareBytes (xs.map fun n => UInt8.ofNat n.toNat) (ys.map fun n => UInt8.ofNat n.toNat) = ordL xs ys
  | [], [], _, _ => rfl
  | _ :: _, [], _, _ => rfl
  | [], _ :: _, _, _ => rfl
  | x :: xs, y :: ys, hx, hy => by
    have h1 := hx x (by simp)
    have h2 := hy y (by simp)
    have ih := cmp_ord (xs := xs) (ys := ys) (fun z hz => hx z (by simp [hz])) (fun z hz => hy z (by simp [hz]))
    rw [List.map_cons, List.map_cons, Lib.compareBytes, ih]
    have e1 : ∀ {a b : Int}, 0 ≤ a ∧ a ≤ 255 → 0 ≤ b ∧ b ≤ 255 → ((UInt8.ofNat a.toNat < UInt8.ofNat b.toNat) ↔ a < b) := fun ha hb => by
      rw [UInt8.lt_iff_toNat_lt]
      simp only [UInt8.toNat_ofNat']
      omega
    by_cases c1 : x < y
    · rw [if_pos ((e1 h1 h2).2 c1), ordL_lt (by simp [ltL, c1])]
    · rw [if_neg (fun q => c1 ((e1 h1 h2).1 q))]
      by_cases c2 : y < x
      · rw [if_pos ((e1 h2 h1).2 c2), ordL_gt (by simp [ltL, c2])]
      · rw [if_neg (fun q => c2 ((e1 h2 h1).1 q))]
        obtain rfl : x = y := by omega
        have e2 : ∀ p q : List Int, ltL (x :: p) (x :: q) = ltL p q := fun p q => by simp [ltL]
        unfold ordL
        rw [e2, e2]
theorem bytesOf_in {P : Program} {w : World} {a : Option Addr} {n cap : Nat} {bs : List Int} (h : InBytes w a n cap bs) : (Extern.Bytes.bytesOf (.slice a n cap)).run P w = .ok (strOfNums bs) w := by
  by_cases h0 : 0 < n
  · obtain ⟨g, off, rfl, _, hseg⟩ := h.place h0
    have hl := Lib.run_loadBytesX (P := P) w bs ⟨g, off, none⟩ .empty (fun j x hj => by
      have hjl : j < bs.length := (List.getElem?_eq_some_iff.1 hj).1
      have e : (⟨g, off, none⟩ : Addr).add j = ⟨g, off + j, none⟩ := by unfold Addr.add; split <;> simp_all
      rw [e, hseg j hjl]
      rw [List.getElem?_eq_getElem hjl] at hj
      injection hj with hj
      rw [hj])
    rw [h.len] at hl
    have e : (⟨ByteArray.empty.data ++ (Lib.bytesOf bs).toArray⟩ : ByteArray) = strOfNums bs := by
      apply ByteArray.ext
      show (#[] : Array UInt8) ++ (Lib.bytesOf bs).toArray = _
      simp [strOfNums, Lib.bytesOf]
    rw [e] at hl
    exact hl
  · have hn : n = 0 := by omega
    subst hn
    have hb : bs = [] := List.eq_nil_of_length_eq_zero h.len
    subst hb
    cases a with
    | none => rfl
    | some x => rfl
theorem run_compare {P : Program} {w : World} {a b : Option Addr} {n m c d : Nat} {xs ys : List Int} (hx : InBytes w a n c xs) (hy : InBytes w b m d ys) :
    (Extern.BytealgCompare.compare #[.slice a n c, .slice b m d]).run P w = .ok (.int .i64 (ordL xs ys)) w := by
  change Sem.run P (do pure (goInt (Extern.BytealgCompare.cmp (← Extern.Bytes.bytesOf (.slice a n c)) (← Extern.Bytes.bytesOf (.slice b m d))))) w = _
  simp only [Sem.run_bind, Sem.run_pure, bytesOf_in hx, bytesOf_in hy, Result.andThen]
  rw [Lib.cmp_eq, strOfNums_data, strOfNums_data, cmp_ord hx.bytes hy.bytes]
  rfl
theorem compare_fact {w : World} {a b : Option Addr} {n m c d : Nat} {xs ys : List Int} (hx : InBytes w a n c xs) (hy : InBytes w b m d ys) :
    (callFunc 34 #[.slice a n c, .slice b m d]).run Try.prog w = .ok (.value (.int .i64 (ordL xs ys))) w := by
  rw [run_callFunc_extern Try.func34 (by kernel_rfl) (by kernel_rfl) (by kernel_rfl) (e := Extern.BytealgCompare.compare) (by kernel_rfl), run_compare hx hy]
  rfl
set_option maxRecDepth 100000 in
/-- bytes.Compare: the world is as it was. -/
theorem compare_any (xs ys : List Int) (a b : Option Addr) (n m c d : Nat) (w : World) (hx : InBytes w a n c xs) (hy : InBytes w b m d ys) :
    Calls Try.prog 26 #[.slice a n c, .slice b m d] w fun e w' => e = .returned (.int .i64 (ordL xs ys)) ∧ w' = w := by
  have hc := compare_fact hx hy
  go_enter Try.func26, Try.ntmps26
  go_wp2
  go_ret
  exact ⟨rfl, rfl⟩
end Go.Proofs.Ytpjojhmdgeejmaa
