/- Contracts of First and Step. -/
import Derived.Test.YtcplfpnaepdddaaDoorStepB
import Derived.Test.YtcplfpnaepdddaaDoorLib
namespace Go.Proofs.YtcplfpnaepdddaaDoor
open Go.RowKit
set_option linter.unusedVariables false

/-- Both tables lie where the program has them. -/
structure TabLies (w : World) : Prop where
  k : ∃ t fr, w.heap[1]? = some (.cells (kTab.map (Value.int .u32)).toArray t fr)
  h : ∃ t fr, w.heap[0]? = some (.cells (hTab.map (Value.int .u32)).toArray t fr)
theorem heap_lt {w : World} {g : Nat} {o : Obj} (h : w.heap[g]? = some o) : g < w.heap.size := by
  rcases Nat.lt_or_ge g w.heap.size with hlt | hge
  · exact hlt
  · rw [Array.getElem?_eq_none hge] at h; cases h
theorem TabLies.kl {w : World} (h : TabLies w) : KLies w := by
  obtain ⟨t, fr, hk⟩ := h.k
  refine ⟨fun i hi => ?_, heap_lt hk⟩
  rw [Nat.zero_add, cell_of_row w _ i _ t fr hk]
  simp [hi]
theorem TabLies.below {w w' : World} (h : TabLies w) {B : Nat} (hb : Below B w w') (hB : w.heap.size ≤ B) : TabLies w' := by
  obtain ⟨t, fr, hk⟩ := h.k
  obtain ⟨t', fr', hh⟩ := h.h
  exact ⟨⟨t, fr, (hb.block _ (Nat.lt_of_lt_of_le (heap_lt hk) hB)).trans hk⟩, ⟨t', fr', (hb.block _ (Nat.lt_of_lt_of_le (heap_lt hh) hB)).trans hh⟩⟩

def FirstPost (w : World) (e : Ending) (w' : World) : Prop := e = .returned (stV hTab) ∧ Below w.heap.size w w'
set_option maxRecDepth 100000 in
theorem First_any (w : World) (hT : TabLies w) : Calls Tryd.prog 59 #[] w (FirstPost w) := by
  obtain ⟨t, fr, hh⟩ := hT.h
  have HH : ∀ o, Hid ((w.alloc o).heap[0]? = some (.cells (hTab.map (Value.int .u32)).toArray t fr)) := fun o => Lib.hid ((Below.heap_alloc w o _ (heap_lt hh)).trans hh)
  clear hh hT
  go_enter Tryd.func59, Tryd.ntmps59
  go_wp2_with (first
    | (refine wpList_load_row rfl 40 (.global 0) rfl 0 rfl t _ fr _ (HH _).out Tryd.underlying40 rfl sizeA8 ?_)
    | (refine wpList_store_ints rfl 40 (.tmp 0) (.tmp 1) rfl w.heap.size .u32 hTab rfl rfl 40 [0, 0, 0, 0, 0, 0, 0, 0] (Row.new w 40 [0, 0, 0, 0, 0, 0, 0, 0]) sizeA8 rfl ?_
       intro w5 hr5 hg5 hs5
       have HR5 := Lib.hid hr5
       have HG5 := Lib.hid hg5
       clear hr5 hg5 hs5))
  refine bodyPost_ret (v := stV hTab) (results_cell_row Tryd.results59 _ _ w.heap.size 40 _ _ _ rfl HR5.out Tryd.underlying40 rfl sizeA8) rfl ⟨rfl, ?_⟩
  exact below_only ((Below.refl _ _).alloc (Nat.le_refl _) _) HG5.out (by simp) (Nat.le_refl _)
end Go.Proofs.YtcplfpnaepdddaaDoor
