/- Contracts of putBig, tail and Tail. -/
import Derived.Test.YtcplfpnaepdddaaDoorInfo
import Derived.Test.YtcplfpnaepdddaaDoorTailMath
import Derived.WalkLawsBesides
import Derived.WalkSpells
import Derived.Outline
import Derived.Lib.Hide
import Derived.LoopTactic
namespace Go.Proofs.YtcplfpnaepdddaaDoor
open Go.RowKit
set_option linter.unusedVariables false

def PutPost (w : World) (g off n : Nat) (zs : List Int) (x : Int) (e : Ending) (w' : World) : Prop :=
  e = .returned (.tuple #[]) ∧ Row .u8 w' 5 g (putB zs off n x n) ∧ w'.heap.size = w.heap.size ∧ w.grownBy w' (some g)

set_option maxHeartbeats 1000000 in
theorem putBig_any (g off n cap : Nat) (zs : List Int) (x : Int) (w : World) (hr : Row .u8 w 5 g zs) (hl : off + n ≤ zs.length) (hn : n ≤ 8) (hx : 0 ≤ x) (hx2 : x ≤ 18446744073709551615) :
    Calls Tryd.prog 69 #[.slice (some ⟨g, off, none⟩) n cap, .int .u64 x] w (PutPost w g off n zs x) := by
  have HR := Lib.hid hr
  clear hr
  go_enter Tryd.func69, Tryd.ntmps69
  go_wp2
  go_loopw [7] (fun i wx => ∃ k : Nat, k ≤ n ∧ i = .int .i64 k ∧ Row .u8 wx 5 g (putB zs off n x k) ∧ wx.heap.size = w.heap.size ∧ w.grownBy wx (some g)) (fun i _ => n - (intOf i).toNat)
  case atStart => exact ⟨0, Nat.zero_le _, rfl, HR.out, rfl, only_refl _ _⟩
  case round =>
    obtain ⟨k, hk, rfl, hr, hs, hg⟩ := hrel
    have hlen := putB_length zs off n x k
    have hf := hr.frozen (off + k)
    have HR2 := Lib.hid hr
    have HS := Lib.hid hs
    have HL := Lib.hid hlen
    by_cases hlt : k < n
    · obtain ⟨z0, hc⟩ := hr.has (off + k) (by omega)
      have HG := Lib.hid hg
      clear hr hs hlen hg
      go_wp2
      go_roundw
      case rel => exact ⟨k + 1, by omega, by go_num, HR2.out.set _ _, by simpa [World.setCell] using HS.out, only_set HG.out _ _⟩
      case measure => simp [intOf]; omega
    · obtain rfl : k = n := by omega
      clear hr hs hlen hf
      go_wp2
      go_end0
      exact ⟨rfl, HR2.out, HS.out, hg⟩

def TailPost (w : World) (n : Nat) (e : Ending) (w' : World) : Prop :=
  e = .returned (.slice (some ⟨w.heap.size, 0, none⟩) (nils n + 9) (nils n + 9)) ∧ Row .u8 w' 5 w.heap.size (tailL n) ∧ Below w.heap.size w w' ∧ w'.heap.size = w.heap.size + 1


set_option maxHeartbeats 1000000 in
theorem tail_any (n : Nat) (w : World) (hn : (n : Int) ≤ 1125899906842624) :
    Calls Tryd.prog 68 #[.int .i64 n] w (TailPost w n) := by
  obtain ⟨i0, hi0, hz0, hz1, hz2⟩ := info_parts infoU8
  have hnl := nils_lt n
  have hnz : (128 - ((n : Int) % 64 + 1 + 8)) % 64 = (nils n : Int) := by unfold nils; omega
  go_enter Tryd.func68, Tryd.ntmps68
  go_wp2_with (at_make; refine wpList_make_ints w rfl (.tmp 15) (.tmp 15) 22 rfl 5 i0 .u8 Tryd.underlying22 hi0 hz0 hz1 .i64 .i64 _ _ (nils n + 9) rfl rfl (by push_cast; omega) (by push_cast; omega) (by rw [hz2]; omega) (by simp only [maxLen]; omega) ?_; intro w1 hr1 hb1 hs1; obtain ⟨z0, hc0⟩ := hr1.has 0 (by simp); have hf0 := hr1.frozen 0; have HR1 := Lib.hid hr1; have HS1 := Lib.hid hs1; clear hr1 hs1)
  rw [show nils n + 9 - (1 + nils n) = 8 by omega]
  refine (putBig_any w.heap.size (1 + nils n) 8 8 ((List.replicate (nils n + 9) (0 : Int)).set 0 128) (8 * n) _ (HR1.out.set 0 128) (by simp; omega) (by omega) (by omega) (by omega)).mono ?_
  rintro e w2 ⟨rfl, hr2, hs2, hg2⟩
  rw [set_first, putB_tail] at hr2
  have hb2 : Below w.heap.size w w2 := below_only (hb1.setCell (Nat.le_refl _) _) hg2 (by simp [World.setCell, HS1.out]) (Nat.le_refl _)
  have hs3 : w2.heap.size = w.heap.size + 1 := by rw [hs2]; simp [World.setCell, HS1.out]
  have H := Lib.hid (And.intro hr2 (And.intro hb2 hs3))
  clear hr2 hs2 hg2 hb2 hs3
  go_wp2
  go_ret
  exact ⟨rfl, H.out⟩
end Go.Proofs.YtcplfpnaepdddaaDoor
