/- What the rows' condition on the two listed tables gives the walks; a start that meets it. -/
import Derived.Test.YtcaggiekooncnaaDoorRows
import Derived.Test.YtcaggiekooncnaaDoorStepC
import Derived.ProofKit
import Derived.LaidMore
import Derived.OpenShut
import Derived.Stop.Joined
namespace Go.Proofs.YtcaggiekooncnaaDoor
open Go.ChangeShapes Go.WideShapes Go.ChangeAt Go.RowKit
set_option linter.unusedVariables false

theorem own : ownKnob Tryd.prog.godebug = none := by kernel_rfl
theorem laidOut : laidOutB Tryd.prog = true := by kernel_rfl
theorem gK : Tryd.prog.globalNamed "heartwood/sha.roundConstants" = some 1 := by kernel_rfl
theorem gH : Tryd.prog.globalNamed "heartwood/sha.initialState" = some 0 := by kernel_rfl
theorem tK : (Tryd.prog.globals[1]?).map (·.type) = some 53 := by kernel_rfl
theorem tH : (Tryd.prog.globals[0]?).map (·.type) = some 23 := by kernel_rfl
theorem cK : Tryd.prog.cellsOf 53 = 64 := by kernel_rfl
theorem cH : Tryd.prog.cellsOf 23 = 8 := by kernel_rfl
theorem cU : Tryd.prog.cellsOf 22 = 1 := by kernel_rfl

abbrev tabs : List (String × DataW Unit) := [("heartwood/sha.roundConstants", Rows.laid_heartwood_sha_roundConstants), ("heartwood/sha.initialState", Rows.laid_heartwood_sha_initialState)]

theorem ints_of_trod {H : Type} {enc : TypeId × Value → H} {P : Program} {w : World} {base : Nat} {sp : Nat → Bool} {held : Bool} {fuel : Nat} {t e : TypeId} {n : Nat} {k : IntKind} {cs : List Value} {zs : List Int} {ps : List MemPlace}
    (hu : P.underlying t = some (.array n e)) (he : P.underlying e = some (.int k)) (hce : P.cellsOf e = 1) (hct : P.cellsOf t = n) (hn : zs.length = n)
    (h : DataW.trod enc P w base sp held fuel t cs = some (.agg (zs.map fun z => .lit (.int k z)), ps)) : cs = zs.map (Value.int k) := by
  obtain ⟨xs, m, _, hx, hl, hxl, hi⟩ := DataW.trod_array hu h
  simp only [Prod.mk.injEq, DataW.agg.injEq] at hx
  apply List.ext_getElem
  · rw [hl, hct, List.length_map, hn]
  · intro i h1 h2
    have hin : i < n := by omega
    have hx1 := hi i hin
    rw [hce, Nat.mul_one, List.drop_eq_getElem_cons h1, List.getElem?_eq_getElem (by omega)] at hx1
    obtain ⟨a, e1, e2, _⟩ := DataW.trod_int he hx1
    have e3 : (xs.map (·.1))[i]? = (zs.map fun z => DataW.lit (H := H) (.int k z))[i]? := by rw [← hx.1]
    have hzi : i < zs.length := by omega
    have hxi : i < xs.length := by omega
    simp only [List.getElem?_map, List.getElem?_eq_getElem hxi, List.getElem?_eq_getElem hzi, Option.map_some, Option.some.injEq, e2, DataW.lit.injEq, Lit.int.injEq, true_and] at e3
    simp only [List.take_succ_cons, List.take_zero, List.cons.injEq, and_true] at e1
    rw [e1, e3]
    simp

theorem of_laid {W : World} (h : laidMetH Tryd.prog tabs W) : TabLies W := by
  rw [MakeChecks.laidMetH_plain _ _ _ (by kernel_rfl)] at h
  obtain ⟨ps, ⟨g0, t0, cs0, f0, p0, q0, hg0, ht0, hv0, hd0, ⟨g1, t1, cs1, f1, p1, q1, hg1, ht1, hv1, hd1, _, _⟩, _⟩, _, _⟩ := h
  obtain rfl := Option.some.inj (gK.symm.trans hg0)
  obtain rfl := Option.some.inj (gH.symm.trans hg1)
  obtain rfl := Option.some.inj (tK.symm.trans ht0)
  obtain rfl := Option.some.inj (tH.symm.trans ht1)
  have e0 : cs0.toList = kTab.map (Value.int .u32) := ints_of_trod (zs := kTab) Tryd.underlying53 Tryd.underlying22 cU cK rfl hd0
  have e1 : cs1.toList = hTab.map (Value.int .u32) := ints_of_trod (zs := hTab) Tryd.underlying23 Tryd.underlying22 cU cH rfl hd1
  constructor
  · simp only [World.var?, gK, Option.bind_some] at hv0
    split at hv0
    · rename_i cs t fr hh
      injection hv0 with hv0
      subst hv0
      refine ⟨t, fr, ?_⟩
      rw [hh, ← e0]
    · cases hv0
  · simp only [World.var?, gH, Option.bind_some] at hv1
    split at hv1
    · rename_i cs t fr hh
      injection hv1 with hv1
      subst hv1
      refine ⟨t, fr, ?_⟩
      rw [hh, ← e1]
    · cases hv1

/-- The door's own heap meets the condition. -/
theorem door_met (os : Os) (args : Array Value) : laidMetH Tryd.prog tabs ((World.doorLaid Tryd.prog 400 os).forCall (fun _ _ => 0) ⟨#[], args, []⟩).memory :=
  laidMetH_of_parts3 (fuel := 8) (laidMet_of_run' 8 (by kernel_rfl) (by kernel_rfl)) (by kernel_rfl) (by kernel_rfl)
end Go.Proofs.YtcaggiekooncnaaDoor
