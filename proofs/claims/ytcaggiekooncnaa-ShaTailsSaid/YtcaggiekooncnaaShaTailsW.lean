/- The walk of the law ShaTails. -/
import Derived.Test.YtcaggiekooncnaaTailB
import Derived.Laws.BytesArg
import Derived.Lib.IfaceEq
import Derived.Deep.RegionWith
namespace Go.Proofs.Ytcaggiekooncnaa
open Go.RowKit
set_option linter.unusedVariables false

theorem compCode : (Try.prog.info? 27).map (·.comparable) = some true := by kernel_rfl
theorem eql_code (a b : Int) (w : World) : (binOp .eql 24 (.iface 27 (.int .i64 a)) (.iface 27 (.int .i64 b))).run Try.prog w = .ok (.bool (a == b)) w :=
  Lib.run_eql_iface_int w a b Try.underlying24 compCode Try.underlying27
theorem conv_row (g cap : Nat) (zs : List Int) (W : World) (h : Row .u8 W 5 g zs) : (convert 22 9 (.slice (some ⟨g, 0, none⟩) zs.length cap)).run Try.prog W = .ok (.string (strOfNums zs)) W :=
  run_convert_bytes_arg W 22 5 Try.underlying22 Try.underlying5 g 0 zs.length cap zs rfl (fun i hi => h.seg.cellD i hi) 9 Try.underlying9
theorem conv_own (base g n cap : Nat) (zs : List Int) (W : World) (h : W.ownsRow base 5 1 (.slice (some ⟨g, 0, none⟩) n cap) n (zs.map (Value.int .u8))) : (convert 22 9 (.slice (some ⟨g, 0, none⟩) n cap)).run Try.prog W = .ok (.string (strOfNums zs)) W := by
  have hl : zs.length = n := by simpa using h.1
  refine run_convert_bytes_arg W 22 5 Try.underlying22 Try.underlying5 g 0 n cap zs hl (fun i hi => ?_) 9 Try.underlying9
  have h2 := h.cells (g := g) rfl i (.int .u8 (zs.getD i 0)) (by simp [List.getD, hl ▸ hi])
  have hp : (⟨g, 0, none⟩ : Addr).add i = ⟨g, 0 + i, none⟩ := by unfold Addr.add; split <;> simp_all
  rw [← hp]
  exact h2

set_option maxHeartbeats 1000000 in
theorem tails_no (n : Int) (w : World) (hn : n < 0 ∨ 1125899906842624 < n) :
    Calls Try.prog 3 #[.int .i64 n] w fun e w' => e = .returned (.bool true) ∧ Below w.heap.size w w' := by
  have hq := eql_code 1 1
  have h55 : nils 55 = 0 := by decide
  have c1 := fun W => Tail_yes 55 W (by omega)
  have c2 := fun W => Tail_no n W hn
  unfold TailTuple at c1
  rw [h55] at c1
  have C1 := Lib.hid c1
  have C2 := Lib.hid c2
  clear c1 c2 h55
  rcases hn with hn | hn
  · go_enter Try.func3, Try.ntmps3
    go_wp2_with fail
    refine (C1.out _).mono ?_
    rintro e w1 ⟨rfl, _, hb, _⟩
    have HB := Lib.hid hb
    clear hb
    go_wp2_with fail
    refine (C2.out _).mono ?_
    rintro e w' ⟨rfl, rfl⟩
    go_wp2
    go_ret
    exact ⟨rfl, HB.out⟩
  · go_enter Try.func3, Try.ntmps3
    go_wp2_with fail
    refine (C1.out _).mono ?_
    rintro e w1 ⟨rfl, _, hb, _⟩
    have HB := Lib.hid hb
    clear hb
    go_wp2_with fail
    refine (C2.out _).mono ?_
    rintro e w' ⟨rfl, rfl⟩
    go_wp2
    go_ret
    exact ⟨rfl, HB.out⟩

set_option maxHeartbeats 1000000 in
theorem tails_yes (n : Nat) (w : World) (hn : (n : Int) ≤ 1125899906842624) :
    Calls Try.prog 3 #[.int .i64 n] w fun e w' => e = .returned (.bool true) ∧ Below w.heap.size w w' := by
  have h55 : nils 55 = 0 := by decide
  have c1 := fun W => Tail_yes 55 W (by omega)
  have c2 := fun W => Tail_yes n W hn
  have c3 := fun W => refTail_any n W hn
  unfold TailTuple at c1 c2
  rw [h55] at c1
  have C1 := Lib.hid c1
  have C2 := Lib.hid c2
  have C3 := Lib.hid c3
  clear c1 c2 c3 h55
  go_enter Try.func3, Try.ntmps3
  go_wp2_with fail
  refine (C1.out _).mono ?_
  rintro e w1 ⟨rfl, _, hb, hs1⟩
  have HB := Lib.hid hb
  clear hb
  go_wp2_with fail
  refine (C2.out _).mono ?_
  rintro e w2 ⟨rfl, hr2, hb2, hs2⟩
  rw [hs1] at hr2
  have HB2 := Lib.hid hb2
  have HR2 := Lib.hid hr2
  have HS2 := Lib.hid hs2
  clear hr2 hb2 hs2
  go_wp2_with fail
  have hlen := tailL_length n
  have hcv : ∀ W, Row .u8 W 5 (w.heap.size + 1) (tailL n) → (convert 22 9 (.slice (some ⟨w.heap.size + 1, 0, none⟩) (nils n + 9) (nils n + 9))).run Try.prog W = .ok (.string (strOfNums (tailL n))) W := fun W h => by
    have h2 := conv_row (w.heap.size + 1) (nils n + 9) (tailL n) W h
    rw [hlen] at h2
    exact h2
  have HCV := Lib.hid hcv
  have hc0 := HCV.out w2.drew HR2.out
  clear hcv hlen
  go_region_with (go_at_call 7; (with_reducible refine (C3.out _).mono ?_); rintro e w3 ⟨v3, rfl, hown3, hb3⟩; obtain ⟨g3, cap3, hv3, hgg3, hlt3⟩ := hown3.form (by omega); rw [hv3]; rw [hv3] at hown3; have hc3 := conv_own _ _ _ _ _ _ hown3; have hc4 := HCV.out w3 (HR2.out.below (w := w2.drew) hb3 HR2.out.lt); have HB3 := Lib.hid hb3; clear hown3 hv3 hb3)
  all_goals
    go_wp2
    go_ret
    refine ⟨rfl, ?_⟩
    have b1 : Below w.heap.size w w2.drew := (HB.out.trans (HB2.out.mono HB.out.size)).drew
    exact b1.trans (HB3.out.mono b1.size)
end Go.Proofs.Ytcaggiekooncnaa
