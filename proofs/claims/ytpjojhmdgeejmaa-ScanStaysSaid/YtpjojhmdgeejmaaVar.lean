/- A variable of one cell: a closure's, a number's. No program is named here. -/
import Derived.Test.YtpjojhmdgeejmaaLib
import Derived.Laws.EntriesVeiled
namespace Go.Proofs.Ytpjojhmdgeejmaa
open Go.RowKit
set_option linter.unusedVariables false

/-- Block g is a variable of one cell, which holds v. -/
def Var1 (w : World) (ty : TypeId) (g : Nat) (v : Value) : Prop := w.heap[g]? = some (.cells #[v] ty (0, 0))
section
variable {w w' : World} {ty : TypeId} {g : Nat} {v : Value}
theorem Var1.new (w : World) (ty : TypeId) (v : Value) : Var1 (w.alloc (.cells #[v] ty)) ty w.heap.size v := heap_alloc_new w _
theorem Var1.lt (h : Var1 w ty g v) : g < w.heap.size := by
  rcases Nat.lt_or_ge g w.heap.size with hlt | hge
  · exact hlt
  · unfold Var1 at h; rw [Array.getElem?_eq_none hge] at h; cases h
theorem Var1.below {B : Nat} (h : Var1 w ty g v) (hb : Below B w w') (hg : g < B) : Var1 w' ty g v := (hb.block g hg).trans h
theorem Var1.grown {row : Option Nat} (h : Var1 w ty g v) (hb : w.grownBy w' row) (hg : some g ≠ row) : Var1 w' ty g v := (hb.block g h.lt hg).trans h
theorem Var1.drew (h : Var1 w ty g v) : Var1 w.drew ty g v := h
theorem Var1.cell (h : Var1 w ty g v) : w.cell? ⟨g, 0, none⟩ = some v := by
  rw [cell_of_row w g 0 _ _ (0, 0) h]
  rfl
theorem Var1.frozen (h : Var1 w ty g v) (i : Nat) : w.frozen? ⟨g, i, none⟩ = false := by
  unfold Var1 at h
  simp [World.frozen?, h]
theorem Var1.set (h : Var1 w ty g v) (u : Value) : Var1 (w.setCell ⟨g, 0, none⟩ u) ty g u := by
  unfold Var1 at h ⊢
  simp [World.setCell, Array.getElem?_modify, h]
theorem Var1.far (h : Var1 w ty g v) {p : Addr} (hp : g ≠ p.block) (u : Value) : Var1 (w.setCell p u) ty g v := (Below.heap_setCell w p u g hp).trans h
end
end Go.Proofs.Ytpjojhmdgeejmaa
