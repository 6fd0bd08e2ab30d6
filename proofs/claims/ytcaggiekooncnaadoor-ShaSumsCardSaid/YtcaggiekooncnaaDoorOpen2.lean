/- A slice of bytes that comes in: nil, or a place and the bytes that lie there. No program is named here. -/
import Derived.ProofKit
import Derived.OpenShut
import Derived.Test.YtcaggiekooncnaaDoorMem
import Derived.Test.YtcaggiekooncnaaDoorWordMath
namespace Go.Proofs.YtcaggiekooncnaaDoor
open Go.ChangeShapes Go.WideShapes Go.RowKit
set_option linter.unusedVariables false

/-- What a walk is told of a slice of bytes: bs: its bytes; where it has one, its place. -/
structure InBytes (w : World) (a : Option Addr) (n cap : Nat) (bs : List Int) : Prop where
  len : bs.length = n
  bytes : Bytes8 bs
  le : n ≤ cap
  max : cap ≤ maxLen
  nil : a = none → cap = 0
  place : 0 < n → ∃ g off, a = some ⟨g, off, none⟩ ∧ g < w.heap.size ∧ Seg .u8 w g off bs

theorem InBytes.below {w w' : World} {a : Option Addr} {n cap : Nat} {bs : List Int} (h : InBytes w a n cap bs) (hb : Below w.heap.size w w') : InBytes w' a n cap bs :=
  ⟨h.len, h.bytes, h.le, h.max, h.nil, fun h0 => by
    obtain ⟨g, off, e, hg, hs⟩ := h.place h0
    exact ⟨g, off, e, Nat.lt_of_lt_of_le hg hb.size, hs.below hb hg⟩⟩
section
variable {H : Type} {enc : TypeId × Value → H} {P : Program} {w : World} {base : Nat} {spare : Nat → Bool} {held : Bool}
theorem open_bytes {t e : TypeId} {a : Option Addr} {n cap : Nat} {d : DataW H} {p : List MemPlace}
    (hu : P.underlying t = some (.slice e)) (he : P.underlying e = some (.int .u8)) (hce : P.cellsOf e = 1)
    (h : DataW.Trod enc P w base spare held t (.slice a n cap) d p) : ∃ bs, InBytes w a n cap bs := by
  obtain ⟨fuel, hf⟩ := h
  rcases open_ints hu he hce hf with ⟨hcs, _⟩ | ⟨x, l, c, zs, hcs, _, hl, hm, hz, _, hcell, hwz⟩
  · simp [Value.cells] at hcs
    obtain ⟨rfl, rfl, rfl⟩ := hcs
    exact ⟨[], { len := rfl, bytes := (fun z hz => by cases hz), le := Nat.le_refl _, max := by simp [maxLen], nil := fun _ => rfl, place := fun h => by omega }⟩
  · simp [Value.cells] at hcs
    obtain ⟨rfl, rfl, rfl⟩ := hcs
    have hlz : n ≤ zs.length := by rw [hz]; split <;> omega
    refine ⟨zs.take n, { len := by simp; omega, bytes := fun z h => bounds_u8 (hwz z (List.mem_of_mem_take h)), le := hl, max := hm, nil := (fun h => by cases h), place := fun h0 => ?_ }⟩
    obtain ⟨g, off, spot⟩ := x
    have h1 := hcell 0 (by omega)
    have hspot : spot = none := by simpa [Addr.add] using World.cell?_spot h1
    subst hspot
    have hlt := World.block_lt_of_cell? w _ h1
    refine ⟨g, off, rfl, by simpa [Addr.add] using hlt, fun i hi => ?_⟩
    have hi2 : i < zs.length := by simp at hi; omega
    have h2 := hcell i hi2
    have hp : (⟨g, off, none⟩ : Addr).add i = ⟨g, off + i, none⟩ := by unfold Addr.add; split <;> simp_all
    rw [hp] at h2
    rw [h2]
    simp [List.getD, hi2]
end
end Go.Proofs.YtcaggiekooncnaaDoor
