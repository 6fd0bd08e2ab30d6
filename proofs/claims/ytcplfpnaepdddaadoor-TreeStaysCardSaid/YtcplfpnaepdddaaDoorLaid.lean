/- What the rows' condition on the two listed tables gives the walks; a start that meets it. -/
import Derived.Test.YtcplfpnaepdddaaDoorLib
import Derived.Test.YtcplfpnaepdddaaDoorRows
import Derived.Test.YtcplfpnaepdddaaDoorShaP
import Derived.ProofKit
import Derived.LaidMore
import Derived.OpenShut
import Derived.Stop.Joined
namespace Go.Proofs.YtcplfpnaepdddaaDoor
open Go.ChangeShapes Go.WideShapes Go.ChangeAt Go.RowKit
set_option linter.unusedVariables false

theorem own : ownKnob Tryd.prog.godebug = none := by kernel_rfl
theorem laidOut : laidOutB Tryd.prog = true := by kernel_rfl
theorem gK : Tryd.prog.globalNamed "heartwood/sha.roundConstants" = some 1 := by kernel_rfl
theorem gH : Tryd.prog.globalNamed "heartwood/sha.initialState" = some 0 := by kernel_rfl
theorem tK : (Tryd.prog.globals[1]?).map (·.type) = some 81 := by kernel_rfl
theorem tH : (Tryd.prog.globals[0]?).map (·.type) = some 40 := by kernel_rfl
theorem cK : Tryd.prog.cellsOf 81 = 64 := by kernel_rfl
theorem cH : Tryd.prog.cellsOf 40 = 8 := by kernel_rfl
theorem cU : Tryd.prog.cellsOf 39 = 1 := by kernel_rfl

abbrev tabs : List (String × DataW Unit) := [("heartwood/sha.roundConstants", Rows.laid_heartwood_sha_roundConstants), ("heartwood/sha.initialState", Rows.laid_heartwood_sha_initialState)]

theorem of_laid {W : World} (h : laidMetH Tryd.prog tabs W) : TabLies W := by
  rw [MakeChecks.laidMetH_plain _ _ _ (by kernel_rfl)] at h
  obtain ⟨ps, ⟨g0, t0, cs0, f0, p0, q0, hg0, ht0, hv0, hd0, ⟨g1, t1, cs1, f1, p1, q1, hg1, ht1, hv1, hd1, _, _⟩, _⟩, _, _⟩ := h
  obtain rfl := Option.some.inj (gK.symm.trans hg0)
  obtain rfl := Option.some.inj (gH.symm.trans hg1)
  obtain rfl := Option.some.inj (tK.symm.trans ht0)
  obtain rfl := Option.some.inj (tH.symm.trans ht1)
  have e0 : cs0.toList = kTab.map (Value.int .u32) := ints_of_trod (zs := kTab) Tryd.underlying81 Tryd.underlying39 cU cK rfl hd0
  have e1 : cs1.toList = hTab.map (Value.int .u32) := ints_of_trod (zs := hTab) Tryd.underlying40 Tryd.underlying39 cU cH rfl hd1
  constructor
  · simp only [World.var?, gK, Option.bind_some] at hv0
    split at hv0
    · rename_i cs t fr hh
      injection hv0 with hv0
      subst hv0
      refine ⟨t, fr, ?_⟩
      rw [hh, ← e0]
    · cases hv0
  · simp only [World.var?, gH, Option.bind_some] at hv1
    split at hv1
    · rename_i cs t fr hh
      injection hv1 with hv1
      subst hv1
      refine ⟨t, fr, ?_⟩
      rw [hh, ← e1]
    · cases hv1

/-- The door's own heap meets the condition. -/
theorem door_met (os : Os) (args : Array Value) : laidMetH Tryd.prog tabs ((World.doorLaid Tryd.prog 400 os).forCall (fun _ _ => 0) ⟨#[], args, []⟩).memory :=
  laidMetH_of_parts3 (fuel := 8) (laidMet_of_run' 8 (by kernel_rfl) (by kernel_rfl)) (by kernel_rfl) (by kernel_rfl)
end Go.Proofs.YtcplfpnaepdddaaDoor
