/- The contract of a round: the document's. -/
import Derived.Test.YtcplfpnaepdddaaDoorShaA
import Derived.Below
namespace Go.Proofs.YtcplfpnaepdddaaDoor
open Go.RowKit
set_option linter.unusedVariables false

theorem quiet_add {P : Program} {f : FuncId} {args : Array Value} {w : World} {a n : Nat} {v : Value}
    (h : Calls P f args (w.drewN (a + n)) fun e w' => e = .returned v ∧ ∃ m, w' = (w.drewN (a + n)).drewN m) :
    Calls P f args (w.drewN (a + n)) fun e w'' => e = .returned v ∧ ∃ m, w'' = w.drewN (a + m) :=
  h.mono fun _ _ ⟨he, m, hm⟩ => ⟨he, n + m, by rw [hm, World.drewN_drewN, Nat.add_assoc]⟩

set_option maxHeartbeats 1000000 in
theorem refRound_any (a b c d e f g z k v : Int) (w : World)
    (ha : 0 ≤ a) (ha2 : a ≤ 4294967295) (hd : 0 ≤ d) (hd2 : d ≤ 4294967295) (he : 0 ≤ e) (he2 : e ≤ 4294967295)
    (hh : 0 ≤ z) (hh2 : z ≤ 4294967295) (hk : 0 ≤ k) (hk2 : k ≤ 4294967295) (hv : 0 ≤ v) (hv2 : v ≤ 4294967295) :
    Calls Tryd.prog 66 #[agg8 a b c d e f g z, .int .u32 k, .int .u32 v] w fun r w' => r = .returned (rndV a b c d e f g z k v) ∧ Below w.heap.size w w' := by
  unfold agg8
  go_enter Tryd.func66, Tryd.ntmps66
  go_wp2
  go_quiet ((go_at_call 71; exact Calls.quiet_of (turn_any _ _ _ he he2 (by omega) (by omega))))
  go_wp2
  go_quiet ((go_at_call 71; exact quiet_add (turn_any _ _ _ ha ha2 (by omega) (by omega))))
  go_wp2
  refine bodyPost_ret (v := rndV a b c d e f g z k v) (by simp [results, Tryd.results66, go_sem, rndV, agg8, lowS, upS, rot3]) rfl ⟨rfl, ?_⟩
  have h2 : Below w.heap.size w ((w.alloc (.cells #[.int .u32 a, .int .u32 b, .int .u32 c, .int .u32 d, .int .u32 e, .int .u32 f, .int .u32 g, .int .u32 z] 40)).alloc (.cells #[.int .u32 0, .int .u32 0, .int .u32 0, .int .u32 0, .int .u32 0, .int .u32 0, .int .u32 0, .int .u32 0] 40)) :=
    ((Below.refl _ _).alloc (Nat.le_refl _) _).alloc (by simp) _
  exact (((((((((below_drewN h2 _).setCell (by simp) _).setCell (by simp) _).setCell (by simp) _).setCell (by simp) _).setCell (by simp) _).setCell (by simp) _).setCell (by simp) _).setCell (by simp) _)
end Go.Proofs.YtcplfpnaepdddaaDoor
