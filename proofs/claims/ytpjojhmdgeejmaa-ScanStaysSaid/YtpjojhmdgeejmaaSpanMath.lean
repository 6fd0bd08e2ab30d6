/- Spans of keys: what the document says of them, as functions. No program is named here. -/
import Derived.Test.YtpjojhmdgeejmaaStrLt
import Derived.Test.YtpjojhmdgeejmaaThree
namespace Go.Proofs.Ytpjojhmdgeejmaa
open Go.RowKit
set_option linter.unusedVariables false

/-- Not above. -/
theorem le_not (f k : List Int) : (ltL f k || f == k) = !ltL k f := by
  rcases ltL_three f k with c | c | c
  · rw [c, ltL_asymm c]; rfl
  · subst c
    rw [ltL_irr]
    simp
  · rw [c, ltL_asymm c, beq_eq_false_iff_ne.2 (fun q => ltL_ne c q.symm)]
    rfl
/-- Is a key in a span? -/
def inS (f t : List Int) (o : Bool) (key : List Int) : Bool := !ltL key f && (o || ltL key t)
/-- The least key that may be there. -/
def leastS (f low : List Int) (hl : Bool) : List Int := if hl && !ltL low f then low ++ [0] else f
/-- Is no key there? -/
def emptyS (f t : List Int) (o : Bool) (low high : List Int) (hl hh : Bool) : Bool := (hh && !ltL (leastS f low hl) high) || (!o && !ltL (leastS f low hl) t)
/-- Between a key and the key followed by a byte 0 there is none. -/
theorem lt_zero : ∀ (a b : List Int), Bytes8 b → (ltL b (a ++ [0]) = !ltL a b)
  | [], [], _ => rfl
  | [], b :: y, h => by
    have h1 := h b (by simp)
    have e : ltL (b :: y) ([] ++ [0]) = false := by
      simp only [List.nil_append, ltL, Bool.or_eq_false_iff, decide_eq_false_iff_not, Bool.and_eq_false_iff]
      refine ⟨by omega, ?_⟩
      right
      trivial
    rw [e]
    rfl
  | a :: x, [], _ => by simp [ltL]
  | a :: x, b :: y, h => by
    have ih := lt_zero x y (fun z hz => h z (by simp [hz]))
    simp only [List.cons_append, ltL, ih]
    rcases (by omega : a < b ∨ a = b ∨ b < a) with c | c | c
    · have e1 : decide (b < a) = false := decide_eq_false (by omega)
      have e2 : (b == a) = false := by simp; omega
      have e3 : decide (a < b) = true := decide_eq_true c
      rw [e1, e2, e3]
      rfl
    · subst c
      simp
    · have e1 : decide (b < a) = true := decide_eq_true c
      have e2 : (a == b) = false := by simp; omega
      have e3 : decide (a < b) = false := decide_eq_false (by omega)
      rw [e1, e2, e3]
      rfl
theorem zero_lt (a : List Int) : ltL a (a ++ [0]) = true := by
  induction a with
  | nil => rfl
  | cons x a ih => simp [ltL, ih]
/-- What is above a key is not below the key followed by a byte 0. -/
theorem above_zero {a b : List Int} (hb : Bytes8 b) : ltL a b = !ltL b (a ++ [0]) := by rw [lt_zero a b hb, Bool.not_not]
/-- The span's two byte strings lie in memory. -/
structure SpanIn (w : World) (h : DH) (f t : List Int) : Prop where
  f : InBytes w h.ka h.kn h.kc f
  t : InBytes w h.va h.vn h.vc t
theorem SpanIn.below {w w' : World} {h : DH} {f t : List Int} (x : SpanIn w h f t) (hb : Below w.heap.size w w') : SpanIn w' h f t := ⟨x.f.below hb, x.t.below hb⟩
def DH.v (h : DH) : Value := .agg #[.slice h.ka h.kn h.kc, .slice h.va h.vn h.vc, .bool h.out]
/-- The span's box: three cells. -/
theorem DH.box (w : World) (ty : TypeId) (h : DH) : RBox recD (w.alloc (.cells #[.slice h.ka h.kn h.kc, .slice h.va h.vn h.vc, .bool h.out] ty)) ty w.heap.size h := heap_alloc_new w _
theorem RBox.three {w : World} {ty : TypeId} {g : Nat} {h : DH} (x : RBox recD w ty g h) : w.cell? ⟨g, 0, none⟩ = some (.slice h.ka h.kn h.kc) ∧ w.cell? ⟨g, 1, none⟩ = some (.slice h.va h.vn h.vc) ∧ w.cell? ⟨g, 2, none⟩ = some (.bool h.out) := ⟨x.cell 0 _ rfl, x.cell 1 _ rfl, x.cell 2 _ rfl⟩
/-- A byte string and a byte 0, as strings. -/
theorem str_zero (a : List Int) : strOfNums a ++ ⟨#[0]⟩ = strOfNums (a ++ [0]) := by
  apply ByteArray.ext
  simp [strOfNums]
theorem str_len (a : List Int) : (strOfNums a).size = a.length := by simp [strOfNums, ByteArray.size]
theorem bytes_zero {a : List Int} (h : Bytes8 a) : Bytes8 (a ++ [0]) := fun z hz => by
  rcases List.mem_append.1 hz with q | q
  · exact h z q
  · simp at q
    omega
end Go.Proofs.Ytpjojhmdgeejmaa
