/- What the program's scan tells, as its contracts say it: the types alone are named. -/
import Derived.Test.YtpjojhmdgeejmaaSpanMath
import Derived.Test.YtpjojhmdgeejmaaPair
import Derived.Test.YtpjojhmdgeejmaaTreeBox
import Derived.Test.YtpjojhmdgeejmaaCodeV
namespace Go.Proofs.Ytpjojhmdgeejmaa
open Go.RowKit
set_option linter.unusedVariables false

/-- The point of a key. -/
def Points (w : World) (key : List Int) (e : Ending) (w' : World) : Prop := ∃ h' : DH, e = .returned h'.v ∧ SpanIn w' h' key (key ++ [0]) ∧ h'.out = false ∧ Below w.heap.size w w'
/-- Values that may be written: bytes, from the block base on. -/
def ValsOK (W : World) (base : Nat) (ps : List PH) : Prop := ∀ i (h : i < ps.length), 0 < (ps[i]).vn → ∃ g off, (ps[i]).va = some ⟨g, off, none⟩ ∧ base ≤ g ∧ g < W.heap.size ∧ ∀ k, k < (ps[i]).vn → W.frozen? ⟨g, off + k, none⟩ = false ∧ ∃ z, W.cell? ⟨g, off + k, none⟩ = some (.int .u8 z) ∧ 0 ≤ z ∧ z ≤ 255
/-- Range's error. -/
def RangeBad (w : World) (e : Ending) (w' : World) : Prop := ∃ a c, e = .returned (.tuple #[.slice a 0 c, codeV 3]) ∧ Below w.heap.size w w'
/-- Range's pairs. -/
def RangeOk (w : World) (kvs : List KV) (e : Ending) (w' : World) : Prop := ∃ ra r rc rs, e = .returned (.tuple #[.slice ra r rc, .nilIface]) ∧ OwnR recP w' w.heap.size 49 (.slice ra r rc) rs ∧ rs.length = r ∧ PairsIn w' rs kvs ∧ ValsOK w' w.heap.size rs ∧ Below w.heap.size w w'
/-- A law's own box of its span; the span's bytes lie in w. -/
structure SX (w W : World) (sp : DH) (f t : List Int) : Prop where
  box : RBox recD W 24 w.heap.size sp
  s : SpanIn w sp f t
  b : Below w.heap.size w W
theorem SX.below {w W W' : World} {sp : DH} {f t : List Int} (x : SX w W sp f t) (hb : Below W.heap.size W W') : SX w W' sp f t := ⟨x.box.below hb x.box.lt, x.s, x.b.trans (hb.mono x.b.size)⟩
theorem SX.drew {w W : World} {sp : DH} {f t : List Int} (x : SX w W sp f t) : SX w W.drew sp f t := x.below (Below.refl _ _).drew
theorem SX.sp {w W : World} {sp : DH} {f t : List Int} (x : SX w W sp f t) : SpanIn W sp f t := x.s.below x.b
theorem SX.new (w : World) {sp : DH} {f t : List Int} (h : SpanIn w sp f t) : SX w (w.alloc (.cells #[.slice sp.ka sp.kn sp.kc, .slice sp.va sp.vn sp.vc, .bool sp.out] 24)) sp f t := ⟨DH.box w _ sp, h, (Below.refl _ _).alloc (Nat.le_refl _) _⟩
theorem infoSpan : (Try.prog.info? 24).map (·.size) = some 3 := by kernel_rfl
/-- In a point its key is alone. -/
theorem point_in {key other : List Int} (h : Bytes8 other) : inS key (key ++ [0]) false other = (other == key) := by
  unfold inS
  rw [Bool.false_or, lt_zero key other h]
  rcases ltL_three other key with c | c | c
  · rw [c, beq_eq_false_iff_ne.2 (ltL_ne c)]
    rfl
  · subst c
    rw [ltL_irr]
    simp
  · rw [c, beq_eq_false_iff_ne.2 (fun q => ltL_ne c q.symm)]
    simp
/-- What is between is not in a span in which no key is left. -/
theorem empty_none {f t low high key : List Int} {o hl hh : Bool} (hk : Bytes8 key) (he : emptyS f t o low high hl hh = true) (hb : ((!hl || ltL low key) && (!hh || ltL key high)) = true) : inS f t o key = false := by
  rw [Bool.and_eq_true, Bool.or_eq_true, Bool.or_eq_true, Bool.not_eq_true', Bool.not_eq_true'] at hb
  -- the least key is not above this one, if it is in the span's beginning
  cases hin : inS f t o key with
  | false => rfl
  | true =>
    exfalso
    unfold inS at hin
    rw [Bool.and_eq_true, Bool.or_eq_true, Bool.not_eq_true'] at hin
    have hle : ltL key (leastS f low hl) = false := by
      unfold leastS
      split
      · rename_i hc
        rw [Bool.and_eq_true] at hc
        rw [lt_zero low key hk]
        rcases hb.1 with q | q
        · rw [hc.1] at q; cases q
        · rw [q]; rfl
      · exact hin.1
    have trans : ∀ {x : List Int}, ltL key x = true → ltL (leastS f low hl) x = true := fun {x} hx => by
      rcases ltL_three (leastS f low hl) key with c | c | c
      · exact ltL_trans c hx
      · rw [c]; exact hx
      · rw [hle] at c; cases c
    unfold emptyS at he
    rw [Bool.or_eq_true, Bool.and_eq_true, Bool.and_eq_true, Bool.not_eq_true', Bool.not_eq_true', Bool.not_eq_true'] at he
    rcases he with ⟨h1, h2⟩ | ⟨h1, h2⟩
    · rcases hb.2 with q | q
      · rw [h1] at q; cases q
      · rw [trans q] at h2; cases h2
    · rcases hin.2 with q | q
      · rw [h1] at q; cases q
      · rw [trans q] at h2; cases h2
end Go.Proofs.Ytpjojhmdgeejmaa
