/- Contracts of First and Step. -/
import Derived.Test.YtcaggiekooncnaaDoorStepB
import Derived.Test.YtcaggiekooncnaaDoorMem2
namespace Go.Proofs.YtcaggiekooncnaaDoor
open Go.RowKit
set_option linter.unusedVariables false

/-- Both tables lie where the program has them. -/
structure TabLies (w : World) : Prop where
  k : ∃ t fr, w.heap[1]? = some (.cells (kTab.map (Value.int .u32)).toArray t fr)
  h : ∃ t fr, w.heap[0]? = some (.cells (hTab.map (Value.int .u32)).toArray t fr)
theorem heap_lt {w : World} {g : Nat} {o : Obj} (h : w.heap[g]? = some o) : g < w.heap.size := by
  rcases Nat.lt_or_ge g w.heap.size with hlt | hge
  · exact hlt
  · rw [Array.getElem?_eq_none hge] at h; cases h
theorem TabLies.kl {w : World} (h : TabLies w) : KLies w := by
  obtain ⟨t, fr, hk⟩ := h.k
  refine ⟨fun i hi => ?_, heap_lt hk⟩
  rw [Nat.zero_add, cell_of_row w _ i _ t fr hk]
  simp [hi]
theorem TabLies.below {w w' : World} (h : TabLies w) {B : Nat} (hb : Below B w w') (hB : w.heap.size ≤ B) : TabLies w' := by
  obtain ⟨t, fr, hk⟩ := h.k
  obtain ⟨t', fr', hh⟩ := h.h
  exact ⟨⟨t, fr, (hb.block _ (Nat.lt_of_lt_of_le (heap_lt hk) hB)).trans hk⟩, ⟨t', fr', (hb.block _ (Nat.lt_of_lt_of_le (heap_lt hh) hB)).trans hh⟩⟩

def FirstPost (w : World) (e : Ending) (w' : World) : Prop := e = .returned (stV hTab) ∧ Below w.heap.size w w'
set_option maxRecDepth 100000 in
theorem First_any (w : World) (hT : TabLies w) : Calls Tryd.prog 9 #[] w (FirstPost w) := by
  obtain ⟨t, fr, hh⟩ := hT.h
  have HH : ∀ o, Hid ((w.alloc o).heap[0]? = some (.cells (hTab.map (Value.int .u32)).toArray t fr)) := fun o => Lib.hid ((Below.heap_alloc w o _ (heap_lt hh)).trans hh)
  clear hh hT
  go_enter Tryd.func9, Tryd.ntmps9
  go_wp2_with (first
    | (refine wpList_load_row rfl 23 (.global 0) rfl 0 rfl t _ fr _ (HH _).out Tryd.underlying23 rfl sizeA8 ?_)
    | (refine wpList_store_ints rfl 23 (.tmp 0) (.tmp 1) rfl w.heap.size .u32 hTab rfl rfl 23 [0, 0, 0, 0, 0, 0, 0, 0] (Row.new w 23 [0, 0, 0, 0, 0, 0, 0, 0]) sizeA8 rfl ?_
       intro w5 hr5 hg5 hs5
       have HR5 := Lib.hid hr5
       have HG5 := Lib.hid hg5
       clear hr5 hg5 hs5))
  refine bodyPost_ret (v := stV hTab) (results_cell_row Tryd.results9 _ _ w.heap.size 23 _ _ _ rfl HR5.out Tryd.underlying23 rfl sizeA8) rfl ⟨rfl, ?_⟩
  exact below_only ((Below.refl _ _).alloc (Nat.le_refl _) _) HG5.out (by simp) (Nat.le_refl _)

def StepTuple (w : World) (s bs : List Int) (e : Ending) (w' : World) : Prop := e = .returned (.tuple #[stV (stepL s bs), .nilIface]) ∧ Below w.heap.size w w'
set_option maxRecDepth 100000 in
set_option maxHeartbeats 1000000 in
theorem Step_yes (g off cap : Nat) (s bs : List Int) (w : World) (hs : s.length = 8) (hsb : Words32 s) (hl : bs.length = 64) (hb8 : Bytes8 bs) (hseg : Seg .u8 w g off bs) (hcap : 64 ≤ cap) (hg : g < w.heap.size) (hK : KLies w) :
    Calls Tryd.prog 8 #[stV s, .slice (some ⟨g, off, none⟩) 64 cap] w (StepTuple w s bs) := by
  have b2 : ∀ o1 o2, Below w.heap.size w ((w.alloc o1).alloc o2) := fun o1 o2 => ((Below.refl _ _).alloc (Nat.le_refl _) _).alloc (by simp) _
  have B2 := Lib.hid b2
  have r0 : ∀ o2, Row .u32 ((w.alloc (.cells (s.map (Value.int .u32)).toArray 23)).alloc o2) 23 w.heap.size s := fun o2 => (Row.new w 23 s).alloc o2
  have R0 := Lib.hid r0
  have r1 : ∀ o1, Row .u32 ((w.alloc o1).alloc (.cells (([0, 0, 0, 0, 0, 0, 0, 0] : List Int).map (Value.int .u32)).toArray 23)) 23 (w.heap.size + 1) [0, 0, 0, 0, 0, 0, 0, 0] := fun o1 => by
    have h := Row.new (k := .u32) (w.alloc o1) 23 [0, 0, 0, 0, 0, 0, 0, 0]
    have e : (w.alloc o1).heap.size = w.heap.size + 1 := by simp
    rw [e] at h
    exact h
  have R1 := Lib.hid r1
  have hc : ∀ o1 o2, Calls Tryd.prog 16 #[stV s, .slice (some ⟨g, off, none⟩) 64 cap] ((w.alloc o1).alloc o2) (StepPost ((w.alloc o1).alloc o2) s bs) := fun o1 o2 =>
    step_any g off cap s bs _ hs hsb hl hb8 (hseg.below (b2 o1 o2) hg) hcap (Nat.lt_of_lt_of_le hg (b2 o1 o2).size) (hK.below (b2 o1 o2) hK.lt)
  have HC := Lib.hid hc
  have hi8 : (Tryd.prog.info? 23).map (·.size) = some s.length := by rw [hs]; exact sizeA8
  have hi8y : (Tryd.prog.info? 23).map (·.size) = some (stepL s bs).length := by rw [stepL_length hs]; exact sizeA8
  have hl8 := stepL_length hs bs
  have HI8 := Lib.hid hi8
  have HI8Y := Lib.hid hi8y
  have HL8 := Lib.hid hl8
  clear b2 r0 r1 hc hs hsb hl hb8 hseg hK hi8 hi8y hl8
  unfold stV
  go_enter Tryd.func8, Tryd.ntmps8
  go_wp2_with (refine wpList_load_ints rfl 23 (.tmp 2) rfl w.heap.size rfl 23 .u32 s (R0.out _) 8 22 Tryd.underlying23 HI8.out ?_)
  refine (HC.out _ _).mono ?_
  rintro e w1 ⟨rfl, hb1⟩
  have HR1 : Hid (Row .u32 w1 23 (w.heap.size + 1) [0, 0, 0, 0, 0, 0, 0, 0]) := Lib.hid ((R1.out _).below hb1 (by simp))
  have HB1 : Hid (Below w.heap.size w w1) := Lib.hid ((B2.out _ _).trans (hb1.mono (by simp; omega)))
  clear hb1
  go_wp2_with (first
    | (refine wpList_store_ints rfl 23 (.tmp 4) (.tmp 13) rfl (w.heap.size + 1) .u32 (stepL s bs) rfl rfl 23 [0, 0, 0, 0, 0, 0, 0, 0] HR1.out HI8Y.out (by rw [HL8.out]; rfl) ?_
       intro w5 hr5 hg5 hs5
       have HR5 := Lib.hid hr5
       have HG5 := Lib.hid hg5
       clear hr5 hg5 hs5))
  refine bodyPost_ret (v := .tuple #[stV (stepL s bs), .nilIface]) (results_cell_tmp Tryd.results8 _ _ (w.heap.size + 1) 23 _ _ _ rfl HR5.out Tryd.underlying23 rfl (by rw [ints_size]; exact HI8Y.out)) rfl ⟨rfl, ?_⟩
  exact below_only HB1.out HG5.out HB1.out.size (by omega)

set_option maxRecDepth 100000 in
set_option maxHeartbeats 1000000 in
theorem Step_no (a : Option Addr) (n cap : Nat) (s : List Int) (w : World) (hs : s.length = 8) (hn : n ≠ 64) :
    Calls Tryd.prog 8 #[stV s, .slice a n cap] w fun e w' => e = .returned (.tuple #[stV [0, 0, 0, 0, 0, 0, 0, 0], .iface 34 (.int .i64 1)]) ∧ Below w.heap.size w w' := by
  have h1 : (((n : Nat) : Int) != 64) = true := by rw [bne_iff_ne]; omega
  have r1 : ∀ o1, Row .u32 ((w.alloc o1).alloc (.cells (([0, 0, 0, 0, 0, 0, 0, 0] : List Int).map (Value.int .u32)).toArray 23)) 23 (w.heap.size + 1) [0, 0, 0, 0, 0, 0, 0, 0] := fun o1 => by
    have h := Row.new (k := .u32) (w.alloc o1) 23 [0, 0, 0, 0, 0, 0, 0, 0]
    have e : (w.alloc o1).heap.size = w.heap.size + 1 := by simp
    rw [e] at h
    exact h
  have R1 := Lib.hid r1
  clear r1
  unfold stV
  go_enter Tryd.func8, Tryd.ntmps8
  go_wp2_with (first
    | (refine wpList_store_ints rfl 23 (.tmp 4) (.tmp 9) rfl (w.heap.size + 1) .u32 [0, 0, 0, 0, 0, 0, 0, 0] rfl rfl 23 [0, 0, 0, 0, 0, 0, 0, 0] (R1.out _) sizeA8 rfl ?_
       intro w5 hr5 hg5 hs5
       have HR5 := Lib.hid hr5
       have HG5 := Lib.hid hg5
       clear hr5 hg5 hs5))
  refine bodyPost_ret (v := .tuple #[stV [0, 0, 0, 0, 0, 0, 0, 0], .iface 34 (.int .i64 1)]) (results_cell_tmp Tryd.results8 _ _ (w.heap.size + 1) 23 _ _ _ rfl HR5.out Tryd.underlying23 rfl sizeA8) rfl ⟨rfl, ?_⟩
  exact below_only (((Below.refl _ _).alloc (Nat.le_refl _) _).alloc (by simp) _) HG5.out (by simp; omega) (by omega)
end Go.Proofs.YtcaggiekooncnaaDoor
