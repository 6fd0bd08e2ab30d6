/- The contract of steps. -/
import Derived.Test.YtcplfpnaepdddaaDoorStepC
import Derived.Test.YtcplfpnaepdddaaDoorLib
namespace Go.Proofs.YtcplfpnaepdddaaDoor
open Go.RowKit
set_option linter.unusedVariables false

def StepsPost (w : World) (s bs : List Int) (m : Nat) (e : Ending) (w' : World) : Prop := e = .returned (stV (stepsL s bs m)) ∧ Below w.heap.size w w'

set_option maxRecDepth 100000 in
set_option maxHeartbeats 2000000 in
theorem steps_any (a : Option Addr) (n cap m : Nat) (s bs : List Int) (w : World) (hs : s.length = 8) (hsb : Words32 s) (hin : InBytes w a n cap bs) (hm : n = 64 * m) (hK : KLies w) :
    Calls Tryd.prog 58 #[stV s, .slice a n cap] w (StepsPost w s bs m) := by
  have hmax := hin.max
  have hle := hin.le
  simp only [maxLen] at hmax
  have b2 : ∀ o1 o2, Below w.heap.size w ((w.alloc o1).alloc o2) := fun o1 o2 => ((Below.refl _ _).alloc (Nat.le_refl _) _).alloc (by simp) _
  have r0 : ∀ o2, Row .u32 ((w.alloc (.cells (s.map (Value.int .u32)).toArray 40)).alloc o2) 40 w.heap.size s := fun o2 => (Row.new w 40 s).alloc o2
  have r1 : ∀ o1, Row .u32 ((w.alloc o1).alloc (.cells (([0, 0, 0, 0, 0, 0, 0, 0] : List Int).map (Value.int .u32)).toArray 40)) 40 (w.heap.size + 1) [0, 0, 0, 0, 0, 0, 0, 0] := fun o1 => by
    have h := Row.new (k := .u32) (w.alloc o1) 40 [0, 0, 0, 0, 0, 0, 0, 0]
    have e : (w.alloc o1).heap.size = w.heap.size + 1 := by simp
    rw [e] at h
    exact h
  have B2 := Lib.hid b2
  have R0 := Lib.hid r0
  have R1 := Lib.hid r1
  have HS := Lib.hid hs
  have HSB := Lib.hid hsb
  have HIN := Lib.hid hin
  have HK := Lib.hid hK
  have HM := Lib.hid hm
  clear b2 r0 r1 hs hsb hin hK hm
  unfold stV
  go_enter Tryd.func58, Tryd.ntmps58
  go_wp2_with fail
  go_loopw [5] (fun i wx => ∃ q : Nat, q ≤ m ∧ i = .int .i64 (64 * (q : Int)) ∧ Row .u32 wx 40 w.heap.size (stepsL s bs q) ∧ Row .u32 wx 40 (w.heap.size + 1) [0, 0, 0, 0, 0, 0, 0, 0] ∧ Below w.heap.size w wx ∧ w.heap.size + 2 ≤ wx.heap.size) (fun i _ => 64 * m - (intOf i).toNat)
  case atStart => exact ⟨0, by omega, rfl, R0.out _, R1.out _, B2.out _ _, by simp⟩
  case round =>
    obtain ⟨q, hq, rfl, hr, hz, hb, hsz⟩ := hrel
    have HR := Lib.hid hr
    have HZ := Lib.hid hz
    have HB := Lib.hid hb
    clear hr hz hb
    have hn := HM.out
    by_cases hlt : q < m
    · obtain ⟨g, off, rfl, hg, hseg⟩ := HIN.out.place (by omega)
      have hl8 : (stepsL s bs q).length = 8 := stepsL_length HS.out bs q
      have hc : ∀ W, Below wr.heap.size wr W → Calls Tryd.prog 67 #[stV (stepsL s bs q), .slice (some ⟨g, off + 64 * q, none⟩) 64 (cap - 64 * q)] W (StepPost W (stepsL s bs q) ((bs.drop (64 * q)).take 64)) := fun W hW => by
        have hbW : Below w.heap.size w W := HB.out.trans (hW.mono HB.out.size)
        refine step_any g (off + 64 * q) (cap - 64 * q) _ _ W hl8 (stepsL_bd HSB.out bs q) ?_ ?_ ?_ (by omega) (Nat.lt_of_lt_of_le hg hbW.size) (HK.out.below hbW HK.out.lt)
        · have := HIN.out.len
          simp; omega
        · exact fun z hz => HIN.out.bytes z (List.mem_of_mem_drop (List.mem_of_mem_take hz))
        · exact ((hseg.below hbW hg).drop (64 * q)).take 64
      obtain ⟨y0, y1, y2, y3, y4, y5, y6, y7, hy⟩ := list_8 (stepL (stepsL s bs q) ((bs.drop (64 * q)).take 64)) (stepL_length hl8 _)
      have hnx : stepsL s bs (q + 1) = [y0, y1, y2, y3, y4, y5, y6, y7] := hy
      obtain ⟨x0, x1, x2, x3, x4, x5, x6, x7, hx⟩ := list_8 (stepsL s bs q) hl8
      have hc2 : ∀ W, Below wr.heap.size wr W → Calls Tryd.prog 67 #[.agg #[.int .u32 x0, .int .u32 x1, .int .u32 x2, .int .u32 x3, .int .u32 x4, .int .u32 x5, .int .u32 x6, .int .u32 x7], .slice (some ⟨g, off + 64 * q, none⟩) 64 (cap - 64 * q)] W (fun e w' => e = .returned (.agg #[.int .u32 y0, .int .u32 y1, .int .u32 y2, .int .u32 y3, .int .u32 y4, .int .u32 y5, .int .u32 y6, .int .u32 y7]) ∧ Below W.heap.size W w') := fun W hW => by
        have h := hc W hW
        unfold StepPost at h
        rw [hy, hx] at h
        exact h
      have hr := HR.out
      rw [hx] at hr
      have HC := Lib.hid hc2
      have HNX := Lib.hid hnx
      have HR2 := Lib.hid hr
      have c0 := hr.cell 0 (by simp)
      have c1 := hr.cell 1 (by simp)
      have c2 := hr.cell 2 (by simp)
      have c3 := hr.cell 3 (by simp)
      have c4 := hr.cell 4 (by simp)
      have c5 := hr.cell 5 (by simp)
      have c6 := hr.cell 6 (by simp)
      have c7 := hr.cell 7 (by simp)
      simp only [List.getElem_cons_zero, List.getElem_cons_succ] at c0 c1 c2 c3 c4 c5 c6 c7
      have k1 : 64 * (q : Int) < (n : Int) := by omega
      have k2 : (64 * (q : Int) + 64).toNat = 64 * q + 64 := by omega
      have k3 : IntKind.i64.wrap (64 * (q : Int) + 64) = 64 * (q : Int) + 64 := IntWalk.i64_in _ (by omega)
      have k4 : (0 : Int) ≤ 64 * (q : Int) := by omega
      have k5 : 64 * (q : Int) + 64 ≤ (cap : Int) := by omega
      have k6 : (64 * (q : Int)).toNat = 64 * q := by omega
      have k8 : ¬ cap = 64 * q := by omega
      have k7 : 64 * (q : Int) ≤ 64 * (q : Int) + 64 := by omega
      clear hl8 hc hn hseg hy hnx hx hc2 hr
      go_wp2_with fail
      go_region_with (go_at_call 67; (with_reducible refine (HC.out _ (Below.refl _ _).drew).mono ?_); rintro _ w3 ⟨rfl, hb3⟩; have HR3 : Hid (Row .u32 w3 40 w.heap.size [x0, x1, x2, x3, x4, x5, x6, x7]) := Lib.hid (HR2.out.drew.below hb3 HR2.out.lt); have HZ3 : Hid (Row .u32 w3 40 (w.heap.size + 1) [0, 0, 0, 0, 0, 0, 0, 0]) := Lib.hid (HZ.out.drew.below hb3 HZ.out.lt); have hcc := fun o => hb3.cell (p := ⟨w.heap.size, o, none⟩) HR2.out.lt; have hff := fun o => HR3.out.frozen o; have HB3 : Hid (Below w.heap.size w w3) := Lib.hid (HB.out.drew.trans (hb3.mono HB.out.size)); clear hb3)
      clear k1 k2 k3 k4 k5 k6 k7 k8 hcc hff c0 c1 c2 c3 c4 c5 c6 c7
      have hn := HM.out
      have k9 : 64 * (q : Int) + 64 ≤ 9223372036854775807 := by omega
      clear hn
      go_wp2_with fail
      go_roundw
      case rel =>
        have hlt2 := HR2.out.lt
        refine ⟨q + 1, by omega, by congr 1, ?_, ?_, ?_, ?_⟩
        · rw [HNX.out]
          exact ((((((((HR3.out.set 0 y0).set 1 y1).set 2 y2).set 3 y3).set 4 y4).set 5 y5).set 6 y6).set 7 y7)
        · exact ((((((((HZ3.out.far (by simp) _).far (by simp) _).far (by simp) _).far (by simp) _).far (by simp) _).far (by simp) _).far (by simp) _).far (by simp) _)
        · exact ((((((((HB3.out.setCell (Nat.le_refl _) _).setCell (Nat.le_refl _) _).setCell (Nat.le_refl _) _).setCell (Nat.le_refl _) _).setCell (Nat.le_refl _) _).setCell (Nat.le_refl _) _).setCell (Nat.le_refl _) _).setCell (Nat.le_refl _) _)
        · have := HZ3.out.lt
          simp [World.setCell]; omega
      case measure => simp [intOf]; omega
    · obtain rfl : q = m := by omega
      have hi8 : (Tryd.prog.info? 40).map (·.size) = some (stepsL s bs q).length := by rw [stepsL_length HS.out]; exact sizeA8
      have HI8 := Lib.hid hi8
      have k1 : ¬ 64 * (q : Int) < (n : Int) := by omega
      clear hi8 hn
      go_wp2_with (first
        | (refine wpList_load_ints rfl 40 (.tmp 2) rfl w.heap.size rfl 40 .u32 (stepsL s bs q) HR.out 8 39 Tryd.underlying40 HI8.out ?_)
        | (refine wpList_store_ints rfl 40 (.tmp 4) (.tmp 19) rfl (w.heap.size + 1) .u32 (stepsL s bs q) rfl rfl 40 [0, 0, 0, 0, 0, 0, 0, 0] HZ.out HI8.out (by rw [stepsL_length HS.out]; rfl) ?_
           intro w5 hr5 hg5 hs5
           have HR5 := Lib.hid hr5
           have HG5 := Lib.hid hg5
           clear hr5 hg5 hs5))
      refine bodyPost_ret (v := stV (stepsL s bs q)) (results_cell_row Tryd.results58 _ _ (w.heap.size + 1) 40 _ _ _ rfl HR5.out Tryd.underlying40 rfl (by rw [ints_size]; exact HI8.out)) rfl ⟨rfl, ?_⟩
      exact below_only HB.out HG5.out HB.out.size (by omega)
end Go.Proofs.YtcplfpnaepdddaaDoor
