/- The walk of the law ShaRounds. -/
import Derived.Test.YtcaggiekooncnaaShaC
import Derived.Deep.RegionHeld3
namespace Go.Proofs.Ytcaggiekooncnaa
open Go.RowKit
set_option linter.unusedVariables false

set_option maxRecDepth 100000 in
set_option maxHeartbeats 3200000 in
theorem rounds_walk (a b c d e f g z k v : Int) (w : World)
    (ha : 0 ≤ a) (ha2 : a ≤ 4294967295) (hd : 0 ≤ d) (hd2 : d ≤ 4294967295) (he : 0 ≤ e) (he2 : e ≤ 4294967295)
    (hh : 0 ≤ z) (hh2 : z ≤ 4294967295) (hk : 0 ≤ k) (hk2 : k ≤ 4294967295) (hv : 0 ≤ v) (hv2 : v ≤ 4294967295) :
    Calls Try.prog 5 #[agg8 a b c d e f g z, .int .u32 k, .int .u32 v] w fun r w' => r = .returned (.bool true) ∧ Below w.heap.size w w' := by
  have hi := run_index8 1 0 0 0 1 0 0 0
  have hq := run_eql_agg8 ((lowS e f g z k v + upS a b c) % 4294967296) a b c ((d + lowS e f g z k v) % 4294967296) e f g
  have h0 := round_zero
  have h1 := fun w => round_any a b c d e f g z k v w ha ha2 hd hd2 he he2 hh hh2 hk hk2 hv hv2
  have h2 := fun w => refRound_any a b c d e f g z k v w ha ha2 hd hd2 he he2 hh hh2 hk hk2 hv hv2
  unfold rndV at h1 h2
  unfold agg8 at *
  have H0 := Lib.hid h0
  have H1 := Lib.hid h1
  have H2 := Lib.hid h2
  clear h0 h1 h2 ha ha2 hd hd2 he he2 hh hh2 hk hk2 hv hv2
  go_enter Try.func5, Try.ntmps5
  go_wp2_with fail
  go_region_held3 (fun w' => w'.cell? ⟨w.heap.size, 0, none⟩ = some (.int .u32 a) ∧ w'.cell? ⟨w.heap.size, 1, none⟩ = some (.int .u32 b) ∧ w'.cell? ⟨w.heap.size, 2, none⟩ = some (.int .u32 c) ∧
      w'.cell? ⟨w.heap.size, 3, none⟩ = some (.int .u32 d) ∧ w'.cell? ⟨w.heap.size, 4, none⟩ = some (.int .u32 e) ∧ w'.cell? ⟨w.heap.size, 5, none⟩ = some (.int .u32 f) ∧ w'.cell? ⟨w.heap.size, 6, none⟩ = some (.int .u32 g) ∧
      w'.cell? ⟨w.heap.size, 7, none⟩ = some (.int .u32 z) ∧ Below w.heap.size w w' ∧ w.heap.size < w'.heap.size)
    (first
      | (go_keep; done)
      | (try dsimp only
         refine ⟨?_, ?_, ?_, ?_, ?_, ?_, ?_, ?_, ?_, ?_⟩
         all_goals first
           | exact Below.drew (Below.alloc (Below.refl _ _) (Nat.le_refl _) _)
           | go_keep)
      | (go_split_ands
         have hcx := (bcell hbx).1
         have hsx := hbx.size
         refine ⟨?_, ?_, ?_, ?_, ?_, ?_, ?_, ?_, ?_, ?_⟩
         all_goals first
           | (rw [hcx _ _ (by assumption)]; assumption)
           | omega
           | exact Below.trans (by assumption) (hbx.mono (by omega))))
    (first
      | (go_at_call 11; (with_reducible refine (H2.out _).mono ?_); rintro _ wx ⟨rfl, hbx⟩)
      | (go_at_call 10; (with_reducible refine (H0.out _).mono ?_); rintro _ wx ⟨rfl, hbx⟩)
      | (go_at_call 10; (with_reducible refine (H1.out _).mono ?_); rintro _ wx ⟨rfl, hbx⟩))
  go_wp2
  go_ret
  rename_i hL
  exact ⟨rfl, hL.2.2.2.2.2.2.2.2.1⟩
end Go.Proofs.Ytcaggiekooncnaa
