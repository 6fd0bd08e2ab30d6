/- An array of integers that comes in by value, opened: whatever its length. No program is named here. -/
import Derived.ProofKit
import Derived.OpenShut
namespace Go.Proofs.YtcaggiekooncnaaDoor
open Go.ChangeShapes Go.WideShapes
set_option linter.unusedVariables false

theorem ints_of_each {k : IntKind} : ∀ (l : List Value), (∀ (i : Nat) (v : Value), l[i]? = some v → ∃ a, v = .int k a ∧ (Lit.int k a).wf = true) →
    ∃ zs : List Int, l = zs.map (Value.int k) ∧ ∀ z ∈ zs, (Lit.int k z).wf = true
  | [], _ => ⟨[], rfl, by simp⟩
  | v :: l, h => by
    obtain ⟨a, rfl, wa⟩ := h 0 v rfl
    obtain ⟨zs, rfl, hz⟩ := ints_of_each l fun i u hu => h (i + 1) u hu
    refine ⟨a :: zs, rfl, ?_⟩
    intro z hm
    rcases List.mem_cons.1 hm with rfl | hm
    · exact wa
    · exact hz z hm

section
variable {H : Type} {enc : TypeId × Value → H} {P : Program} {w : World} {base : Nat} {spare : Nat → Bool} {held : Bool}
theorem open_arr_ints {t e : TypeId} {n : Nat} {k : IntKind} {r : Reach} {b0 : Nat} {v : Value} {d : DataW H} {p : List MemPlace}
    (hu : P.underlying t = some (.array n e)) (he : P.underlying e = some (.int k)) (hce : P.cellsOf e = 1) (hct : P.cellsOf t = n)
    (hv : Value.okWide P w r b0 t v) (h : DataW.Trod enc P w base spare held t v d p) :
    ∃ zs : List Int, v = .agg (zs.map (Value.int k)).toArray ∧ zs.length = n ∧ ∀ z ∈ zs, (Lit.int k z).wf = true := by
  simp only [Value.okWide, hu] at hv
  obtain ⟨cs, rfl, hs, _⟩ := hv
  obtain ⟨fuel, hf⟩ := h
  obtain ⟨xs, m, _, _, hl, hxl, hi⟩ := DataW.trod_array hu hf
  obtain ⟨zs, hz, hw⟩ := ints_of_each (k := k) cs.toList fun i u hu => by
    have hin : i < cs.toList.length := by
      rcases Nat.lt_or_ge i cs.toList.length with h | h
      · exact h
      · rw [List.getElem?_eq_none h] at hu; cases hu
    have hlen : cs.toList.length = n := by simpa [hct] using hs
    have hx := hi i (by omega)
    have h1 : ((Value.agg cs).cells.toList.drop (i * P.cellsOf e)).take (P.cellsOf e) = [u] := by
      rw [hce]
      simp only [Value.cells, Nat.mul_one]
      rw [List.drop_eq_getElem_cons hin]
      have : cs.toList[i] = u := by
        rw [List.getElem?_eq_getElem hin] at hu
        exact Option.some.inj hu
      simp [this]
    rw [h1, List.getElem?_eq_getElem (by omega)] at hx
    obtain ⟨a, e1, _, wa⟩ := DataW.trod_int he hx
    exact ⟨a, by simpa using e1, wa⟩
  refine ⟨zs, ?_, ?_, hw⟩
  · rw [← hz]
  · have : cs.toList.length = zs.length := by rw [hz]; simp
    rw [← this]; simpa [hct] using hs
end

theorem list8 {α : Type} : ∀ (l : List α), l.length = 8 → ∃ a b c d e f g h : α, l = [a, b, c, d, e, f, g, h]
  | [a, b, c, d, e, f, g, h], _ => ⟨a, b, c, d, e, f, g, h, rfl⟩
theorem u32_bd {n : Int} (h : (Lit.int .u32 n).wf = true) : 0 ≤ n ∧ n ≤ 4294967295 := bounds_u32 h
end Go.Proofs.YtcaggiekooncnaaDoor
