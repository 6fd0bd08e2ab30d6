/- Arguments that are slices of anything: their cells, one behind the other, and what each element is. No program is named here. -/
import Derived.Test.YtpjojhmdgeejmaaLib
import Derived.Deep.Slices
namespace Go.Proofs.Ytpjojhmdgeejmaa
open Go.ChangeShapes Go.WideShapes Go.RowKit Go.Deep
set_option linter.unusedVariables false

/-- A slice that lies somewhere: n elements of sz cells each; V: the cells' values. -/
structure InSl (w : World) (a : Option Addr) (n cap sz : Nat) (V : Nat → Value) : Prop where
  le : n ≤ cap
  max : cap ≤ maxLen
  nil : a = none → cap = 0
  place : 0 < n → ∃ g off, a = some ⟨g, off, none⟩ ∧ g < w.heap.size ∧ ∀ i, i < n * sz → w.cell? ⟨g, off + i, none⟩ = some (V i)
theorem InSl.below {w w' : World} {a : Option Addr} {n cap sz : Nat} {V : Nat → Value} (h : InSl w a n cap sz V) (hb : Below w.heap.size w w') : InSl w' a n cap sz V :=
  ⟨h.le, h.max, h.nil, fun h0 => by
    obtain ⟨g, off, e, hg, hc⟩ := h.place h0
    exact ⟨g, off, e, Nat.lt_of_lt_of_le hg hb.size, fun i hi => (hb.cell (p := ⟨g, off + i, none⟩) hg).trans (hc i hi)⟩⟩
theorem InSl.grown {w w' : World} {a : Option Addr} {n cap sz : Nat} {V : Nat → Value} {row : Option Nat} (h : InSl w a n cap sz V) (hg : w.grownBy w' row) (hne : ∀ ad, a = some ad → some ad.block ≠ row) : InSl w' a n cap sz V :=
  ⟨h.le, h.max, h.nil, fun h0 => by
    obtain ⟨g, off, e, hlt, hc⟩ := h.place h0
    exact ⟨g, off, e, Nat.lt_of_lt_of_le hlt hg.size, fun i hi => (World.cell?_of_block (hg.block g hlt (hne _ e))).trans (hc i hi)⟩⟩

section
variable {H : Type} {enc : TypeId × Value → H} {P : Program} {w : World} {base : Nat} {spare : Nat → Bool} {held : Bool}
theorem open_sl {t e : TypeId} {a : Option Addr} {n cap sz : Nat} {d : DataW H} {p : List MemPlace}
    (hu : P.underlying t = some (.slice e)) (hc : P.cellsOf e = sz) (hsz : 0 < sz)
    (h : DataW.Trod enc P w base spare held t (.slice a n cap) d p) :
    ∃ V, InSl w a n cap sz V ∧ ∀ i, i < n → ∃ fuel x, DataW.trod enc P w base spare held fuel e ((List.range sz).map fun j => V (i * sz + j)) = some x := by
  obtain ⟨fuel, hf⟩ := h
  rcases open_slice hu hf with ⟨hcs, _⟩ | ⟨x, l, c, m, k, D, Pl, hcs, hb, hl, hm, hmm, _, hx⟩
  · simp [Value.cells] at hcs
    obtain ⟨rfl, rfl, rfl⟩ := hcs
    exact ⟨fun _ => .nilIface, ⟨Nat.le_refl _, by simp [maxLen], fun _ => rfl, fun h => by omega⟩, fun i hi => by omega⟩
  · simp [Value.cells] at hcs
    obtain ⟨rfl, rfl, rfl⟩ := hcs
    rw [hc] at hx
    have hnm : n ≤ m := by rw [hmm]; split <;> omega
    by_cases h0 : 0 < n
    · obtain ⟨g, off, spot⟩ := x
      have hspot : spot = none := by
        obtain ⟨cs', h1, _⟩ := hx 0 (by omega)
        obtain ⟨_, hlen, hcc⟩ := World.cells?_some h1
        have h2 := hcc 0 hsz
        rw [List.getElem?_eq_getElem (by omega)] at h2
        simpa [Addr.add] using World.cell?_spot h2
      subst hspot
      have hadd : ∀ k, (⟨g, off, none⟩ : Addr).add k = ⟨g, off + k, none⟩ := fun k => by unfold Addr.add; split <;> simp_all
      have hadd2 : ∀ k j, ((⟨g, off, none⟩ : Addr).add k).add j = ⟨g, off + (k + j), none⟩ := fun k j => by
        rw [hadd k]
        unfold Addr.add
        split <;> simp_all
        omega
      have hcs : ∀ i, i < n → ∃ cs', cs'.length = sz ∧ (∀ j, j < sz → w.cell? ⟨g, off + (i * sz + j), none⟩ = cs'[j]?) ∧ DataW.trod enc P w base spare held k e cs' = some (D i, Pl i) := by
        intro i hi
        obtain ⟨cs', h1, h2⟩ := hx i (by omega)
        obtain ⟨_, hlen, hcc⟩ := World.cells?_some h1
        exact ⟨cs', hlen, fun j hj => by have := hcc j hj; rwa [hadd2] at this, h2⟩
      refine ⟨fun i => (w.cell? ⟨g, off + i, none⟩).getD .nilIface, ⟨hl, hm, (fun h => by cases h), fun _ => ⟨g, off, rfl, ?_, fun i hi => ?_⟩⟩, fun i hi => ?_⟩
      · obtain ⟨cs', hlen, hcc, _⟩ := hcs 0 h0
        have h2 := hcc 0 hsz
        rw [List.getElem?_eq_getElem (by omega)] at h2
        exact World.block_lt_of_cell? w _ h2
      · obtain ⟨cs', hlen, hcc, _⟩ := hcs (i / sz) (Nat.div_lt_of_lt_mul (by rw [Nat.mul_comm]; exact hi))
        have h2 := hcc (i % sz) (Nat.mod_lt _ hsz)
        rw [show i / sz * sz + i % sz = i by rw [Nat.mul_comm]; exact Nat.div_add_mod i sz] at h2
        have h3 := Nat.mod_lt i hsz
        rw [List.getElem?_eq_getElem (by omega)] at h2
        simp only [h2, Option.getD_some]
      · obtain ⟨cs', hlen, hcc, ht⟩ := hcs i hi
        refine ⟨k, (D i, Pl i), ?_⟩
        have e : ((List.range sz).map fun j => (w.cell? ⟨g, off + (i * sz + j), none⟩).getD .nilIface) = cs' := by
          apply List.ext_getElem
          · simp [hlen]
          · intro j h1 h2
            simp only [List.getElem_map, List.getElem_range]
            rw [hcc j (by omega), List.getElem?_eq_getElem h2]
            rfl
        rw [e]
        exact ht
    · obtain rfl : n = 0 := by omega
      exact ⟨fun _ => .nilIface, ⟨hl, hm, (fun h => by cases h), fun h => by omega⟩, fun i hi => by omega⟩

/-- A slice of integers. -/
theorem open_intsl {t e : TypeId} {k : IntKind} {a : Option Addr} {n cap : Nat} {d : DataW H} {p : List MemPlace}
    (hu : P.underlying t = some (.slice e)) (he : P.underlying e = some (.int k)) (hc : P.cellsOf e = 1)
    (h : DataW.Trod enc P w base spare held t (.slice a n cap) d p) :
    ∃ z : Nat → Int, InSl w a n cap 1 (fun i => .int k (z i)) ∧ ∀ i, i < n → (Lit.int k (z i)).wf = true := by
  obtain ⟨V, hin, hV⟩ := open_sl hu hc (by omega) h
  have hz : ∀ i, i < n → ∃ z, V i = .int k z ∧ (Lit.int k z).wf = true := by
    intro i hi
    obtain ⟨fuel, x, hx⟩ := hV i hi
    obtain ⟨z, h1, _, h3⟩ := DataW.trod_int he hx
    simp only [List.range_one, List.map_cons, List.map_nil, Nat.mul_one, Nat.add_zero, List.cons.injEq, and_true] at h1
    exact ⟨z, h1, h3⟩
  obtain ⟨z, hq⟩ := choose_lt (α := Int) (p := fun i z => V i = .int k z ∧ (Lit.int k z).wf = true) hz
  refine ⟨z, ⟨hin.le, hin.max, hin.nil, fun h0 => ?_⟩, fun i hi => (hq i hi).2⟩
  obtain ⟨g, off, e1, hg, hcc⟩ := hin.place h0
  exact ⟨g, off, e1, hg, fun i hi => by rw [hcc i hi, (hq i (by omega)).1]⟩
/-- A slice of pairs of integers. -/
theorem open_pairsl {t e : TypeId} {f0 f1 : Field} {k0 k1 : IntKind} {a : Option Addr} {n cap : Nat} {d : DataW H} {p : List MemPlace}
    (hu : P.underlying t = some (.slice e)) (he : P.underlying e = some (.struct #[f0, f1])) (hc : P.cellsOf e = 2) (o0 : f0.offset = 0) (o1 : f1.offset = 1) (c0 : P.cellsOf f0.type = 1) (c1 : P.cellsOf f1.type = 1)
    (u0 : P.underlying f0.type = some (.int k0)) (u1 : P.underlying f1.type = some (.int k1))
    (h : DataW.Trod enc P w base spare held t (.slice a n cap) d p) :
    ∃ (V : Nat → Value) (x y : Nat → Int), InSl w a n cap 2 V ∧ ∀ i, i < n → V (i * 2) = .int k0 (x i) ∧ V (i * 2 + 1) = .int k1 (y i) ∧ (Lit.int k0 (x i)).wf = true ∧ (Lit.int k1 (y i)).wf = true := by
  obtain ⟨V, hin, hV⟩ := open_sl hu hc (by omega) h
  have hz : ∀ i, i < n → ∃ q : Int × Int, V (i * 2) = .int k0 q.1 ∧ V (i * 2 + 1) = .int k1 q.2 ∧ (Lit.int k0 q.1).wf = true ∧ (Lit.int k1 q.2).wf = true := by
    intro i hi
    obtain ⟨fuel, x, hx⟩ := hV i hi
    have e2 : ((List.range 2).map fun j => V (i * 2 + j)) = [V (i * 2), V (i * 2 + 1)] := rfl
    rw [e2] at hx
    obtain ⟨xs, m, _, _, _, hl, hf⟩ := DataW.trod_struct he hx
    have h0 := hf 0 f0 rfl
    have h1 := hf 1 f1 rfl
    rw [o0, c0, List.getElem?_eq_getElem (by rw [hl]; simp)] at h0
    rw [o1, c1, List.getElem?_eq_getElem (by rw [hl]; simp)] at h1
    obtain ⟨z0, p0, _, w0⟩ := DataW.trod_int u0 h0
    obtain ⟨z1, p1, _, w1⟩ := DataW.trod_int u1 h1
    simp at p0 p1
    exact ⟨(z0, z1), p0, p1, w0, w1⟩
  obtain ⟨q, hq⟩ := choose_lt (α := Int × Int) (p := fun i q => V (i * 2) = .int k0 q.1 ∧ V (i * 2 + 1) = .int k1 q.2 ∧ (Lit.int k0 q.1).wf = true ∧ (Lit.int k1 q.2).wf = true) hz
  exact ⟨V, fun i => (q i).1, fun i => (q i).2, hin, hq⟩
/-- A slice of byte strings. -/
theorem open_bytessl {t e b : TypeId} {a : Option Addr} {n cap : Nat} {d : DataW H} {p : List MemPlace}
    (hu : P.underlying t = some (.slice e)) (he : P.underlying e = some (.slice b)) (hb : P.underlying b = some (.int .u8)) (hc : P.cellsOf e = 1) (hcb : P.cellsOf b = 1)
    (h : DataW.Trod enc P w base spare held t (.slice a n cap) d p) :
    ∃ (A : Nat → Option Addr) (L C : Nat → Nat) (B : Nat → List Int), InSl w a n cap 1 (fun i => .slice (A i) (L i) (C i)) ∧ ∀ i, i < n → InBytes w (A i) (L i) (C i) (B i) := by
  obtain ⟨V, hin, hV⟩ := open_sl hu hc (by omega) h
  have hz : ∀ i, i < n → ∃ q : Option Addr × Nat × Nat × List Int, V i = .slice q.1 q.2.1 q.2.2.1 ∧ InBytes w q.1 q.2.1 q.2.2.1 q.2.2.2 := by
    intro i hi
    obtain ⟨fuel, x, hx⟩ := hV i hi
    have e1 : ((List.range 1).map fun j => V (i * 1 + j)) = [V i] := by simp
    rw [e1] at hx
    have hsl : ∃ a' n' c', V i = .slice a' n' c' := by
      rcases DataW.trod_slice he hx with ⟨h1, _⟩ | ⟨a', l', c', _, _, _, _, h1, _⟩
      · simp at h1; exact ⟨_, _, _, h1⟩
      · simp at h1; exact ⟨_, _, _, h1⟩
    obtain ⟨a', n', c', h1⟩ := hsl
    rw [h1] at hx
    obtain ⟨bs, hbs⟩ := open_bytes (d := x.1) (p := x.2) he hb hcb ⟨fuel, hx⟩
    exact ⟨(a', n', c', bs), h1, hbs⟩
  obtain ⟨q, hq⟩ := choose_lt (α := Option Addr × Nat × Nat × List Int) (p := fun i q => V i = .slice q.1 q.2.1 q.2.2.1 ∧ InBytes w q.1 q.2.1 q.2.2.1 q.2.2.2) hz
  refine ⟨fun i => (q i).1, fun i => (q i).2.1, fun i => (q i).2.2.1, fun i => (q i).2.2.2, ⟨hin.le, hin.max, hin.nil, fun h0 => ?_⟩, fun i hi => (hq i hi).2⟩
  obtain ⟨g, off, e1, hg, hcc⟩ := hin.place h0
  exact ⟨g, off, e1, hg, fun i hi => by rw [hcc i hi, (hq i (by omega)).1]⟩
end
end Go.Proofs.Ytpjojhmdgeejmaa
