/- The contract of the document's digest. -/
import Derived.Test.YtcplfpnaepdddaaDoorRefS
namespace Go.Proofs.YtcplfpnaepdddaaDoor
open Go.RowKit
set_option linter.unusedVariables false

/-- A slice of new memory: the first k bytes of a sum. -/
def OfPost (w : World) (k : Nat) (bs : List Int) (e : Ending) (w' : World) : Prop :=
  ∃ g, w.heap.size ≤ g ∧ e = .returned (.slice (some ⟨g, 0, none⟩) k 32) ∧ Row .u8 w' 5 g (sumL bs) ∧ Below w.heap.size w w'

set_option maxRecDepth 100000 in
set_option maxHeartbeats 4000000 in
theorem refOf_any (k : Nat) (hk1 : 1 ≤ k) (hk2 : k ≤ 32) (a : Option Addr) (n cap gk ck : Nat) (bs : List Int) (w : World) (hin : InBytes w a n cap bs) (hn : n ≤ 20000) (hks : Seg .u32 w gk 0 kTab) (hgk : gk < w.heap.size) :
    Calls Tryd.prog 41 #[tabV gk ck, .int .i64 k, .slice a n cap] w (OfPost w k bs) := by
  have hs : ∀ W, Below w.heap.size w W → Calls Tryd.prog 47 #[.agg (Value.slice (some ⟨gk, 0, none⟩) 64 ck :: hTab.map (Value.int .u32)).toArray, .slice a n cap] W (SumPost W bs) :=
    fun W hW => refSum_any a n cap gk ck bs W (hin.below hW) hn (hks.below hW hgk) (Nat.lt_of_lt_of_le hgk hW.size)
  have HS := Lib.hid hs
  have hk3 : (k : Int) ≤ 32 := by omega
  have hk4 : (0 : Int) ≤ (k : Int) := by omega
  clear hin hks hs
  unfold tabV
  go_enter Tryd.func41, Tryd.ntmps41
  go_wp2_with (first
    | (refine wpList_load_row rfl 42 (.tmp 3) rfl w.heap.size rfl 42 _ _ _ (heap_alloc_new w _) Tryd.underlying42 rfl (by kernel_rfl) ?_)
    | (go_at_call 47
       (with_reducible refine (HS.out _ ?_).mono ?_)
       · exact (Below.refl _ _).alloc (Nat.le_refl _) _
       rintro _ w1 ⟨g1, hg1, rfl, hr1, hb1⟩
       have H1 := Lib.hid (And.intro hg1 (And.intro hr1 hb1))
       clear hg1 hr1 hb1))
  go_ret
  obtain ⟨hg1, hr1, hb1⟩ := H1.out
  refine ⟨g1, ?_, rfl, hr1, ?_⟩
  · have h := hg1
    simp at h
    omega
  · exact ((Below.refl w.heap.size w).alloc (Nat.le_refl _) _).trans (hb1.mono (by simp))
end Go.Proofs.YtcplfpnaepdddaaDoor
